/- Joined: HDtQr1, HDtQr3, HDtQr2, HDtQr4. -/
import Derived.Test.YtgaegajcejpmdaaGreatDoorHJ23
import Derived.Test.YtgaegajcejpmdaaGreatDoorHJ20
namespace Go.Proofs.YtgaegajcejpmdaaGreatDoor.Dt
open Go.RowKit
set_option linter.unusedVariables false

/-- A box and a result's place. -/
structure AB2 (w U : World) (c z : Array Value) (t v : TypeId) : Prop where
  x1 : U.heap[w.heap.size]? = some (.cells c t (0, 0))
  x2 : U.heap[w.heap.size + 1]? = some (.cells z v (0, 0))
  hb : Below w.heap.size w U
theorem AB2.init (w : World) (c z : Array Value) (t v : TypeId) : AB2 w ((w.alloc (.cells c t)).alloc (.cells z v)) c z t v := by
  obtain ⟨a, b, e⟩ := box2 w (.cells c t) (.cells z v)
  exact ⟨a, b, e⟩
theorem AB2.set {w U : World} {c z : Array Value} {t v : TypeId} (h : AB2 w U c z t v) (i : Nat) (x : Value) : AB2 w (U.setCell ⟨w.heap.size, i, none⟩ x) (c.setIfInBounds i x) z t v :=
  ⟨bset h.x1 x, (Below.heap_setCell _ _ _ _ (by simp)).trans h.x2, h.hb.setCell (p := ⟨w.heap.size, i, none⟩) (Nat.le_refl _) x⟩
theorem AB2.ex {w U : World} {c z : Array Value} {t v : TypeId} (h : AB2 w U c z t v) : ∃ U', U = U' ∧ AB2 w U' c z t v := ⟨U, rfl, h⟩
theorem found_yr {B r : Int} {j : Nat} (hr : r < ahd (B + 400) - ahd B) (hj : j ≤ 400) (h0 : 0 ≤ r - (ahd (B + j) - ahd B)) : j ≤ 399 := by
  by_cases c : j = 400
  · subst c
    have : (B + ((400 : Nat) : Int)) = B + 400 := rfl
    rw [this] at h0
    omega
  · omega
set_option maxHeartbeats 2000000 in
theorem put_r (a : Mo) (n : Int) (w : World) (h0 : -1000000000000000 < n) (h1 : n < 1000000000000000) : Calls Tryz.prog 83 #[moV a, .int .i64 n] w fun e w' => e = .returned (moV ⟨a.k, bkY (civL n), (civM n : Nat), civD n, a.s, a.n, a.hz, a.z⟩) ∧ Below w.heap.size w w' := by
  obtain ⟨ak, ay, am, ad, as_, an, ah, az⟩ := a
  dsimp only
  have c1 := fun W : World => div_r n 146097 W (by omega) (by omega) (by omega) (by omega)
  have c2 := fun W : World => mod_r n 146097 W (by omega) (by omega) (by omega) (by omega)
  have hr := emod_in n (show (0 : Int) < 146097 by omega)
  have hq : -10000000000 < n / 146097 ∧ n / 146097 < 10000000000 := by omega
  have hnr : n = 146097 * (n / 146097) + n % 146097 := by have := Int.emod_add_mul_ediv n 146097; omega
  generalize hR : n % 146097 = r at *
  generalize hQ : n / 146097 = q at *
  clear hR hQ
  obtain ⟨hr0, hr1⟩ := hr
  obtain ⟨hq0, hq1⟩ := hq
  have hb2 : ahd (2000 + 400 * q) = ahd 2000 + 146097 * q := by rw [ahd_cycle]
  have hb4 : r < ahd (2000 + 400 * q + 400) - ahd (2000 + 400 * q) := by
    have : 2000 + 400 * q + 400 = 2000 + 400 * (q + 1) := by omega
    rw [this, ahd_cycle, ahd_cycle]
    omega
  obtain ⟨B, hB⟩ : ∃ B, 2000 + 400 * q = B := ⟨_, rfl⟩
  have hBb : -5000000000000 < B ∧ B < 5000000000000 := by omega
  rw [hB] at hb2 hb4
  have HNR : Hid _ := And.intro hnr (And.intro hb2 hb4)
  have hB' : 2000 + 400 * q = B := hB
  have HBB : Hid _ := hB
  clear hnr hb2 hb4
  have c3 := fun (j : Nat) (W : World) (hj : j ≤ 400) => leap_r (B + j) W (by omega) (by omega)
  have HC : Hid _ := And.intro c1 (And.intro c2 c3)
  clear c1 c2 c3 hB
  obtain ⟨hBb0, hBb1⟩ := hBb
  have HS : Hid (∀ j : Nat, ahd (B + ((j + 1 : Nat) : Int)) = ahd (B + j) + yrL (B + j)) := (fun j => by rw [show B + ((j + 1 : Nat) : Int) = B + j + 1 by omega, ahd_succ] : ∀ j : Nat, ahd (B + ((j + 1 : Nat) : Int)) = ahd (B + j) + yrL (B + j))
  have HA0 := AB2.init w #[.int .i64 ak, .int .i64 ay, .int .i64 am, .int .i64 ad, .int .i64 as_, .int .i64 an, .bool ah, .int .i64 az] mo0 44 44
  obtain ⟨U, hU, HA⟩ := AB2.ex HA0
  have HU : Hid _ := And.intro hU HA
  clear hU HA HA0
  go_enter Tryz.func83, Tryz.ntmps83
  go_wp2_with (first | (go_at_call 122; with_reducible refine Calls.mono (HC.out.1 _) ?_; rintro e w' ⟨rfl, hw⟩; subst hw) | (go_at_call 123; with_reducible refine Calls.mono (HC.out.2.1 _) ?_; rintro e w' ⟨rfl, hw⟩; subst hw))
  go_loopg [5, 6] 400 (fun g v5 v6 wr => ∃ (j : Nat) (D : Int), j + g = 400 ∧ v5 = .int .i64 (B + (j : Int)) ∧ v6 = .int .i64 D ∧ D = r - (ahd (B + (j : Int)) - ahd B) ∧ 0 ≤ D ∧ D < 146097 ∧ AB2 w wr #[.int .i64 ak, .int .i64 ay, .int .i64 am, .int .i64 ad, .int .i64 as_, .int .i64 an, .bool ah, .int .i64 az] mo0 44 44)
  case atStart => exact ⟨0, r, rfl, by simp, rfl, by simp, hr0, hr1, by rw [HU.out.1]; exact HU.out.2⟩
  case round =>
    obtain ⟨j, D, hjg, rfl, rfl, hD, hD0, hD1, HA⟩ := hrel
    have hj : j ≤ 399 := found_yr HNR.out.2.2 (by omega) (by rw [← hD]; exact hD0)
    obtain ⟨g, rfl⟩ : ∃ g, gk = g + 1 := ⟨gk - 1, by omega⟩
    have c3 := fun W : World => HC.out.2.2 j W (by omega)
    have hs := HS.out j
    have hyr : yrL (B + (j : Int)) = if lpL (B + (j : Int)) = true then 366 else 365 := rfl
    obtain ⟨⟨g0, g1, g2, g3, g4, g5, g6, g7⟩, f0, f1, f2, f3, f4, f5, f6, f7⟩ := blk8 HA.x1
    generalize lpL (B + (j : Int)) = lp at *
    have HX : Hid _ := And.intro hD (And.intro hs (And.intro hyr HA))
    have HLP : Hid _ := c3
    clear hD hs hyr HA c3
    cases lp
    · by_cases hlt : D < 365
      · have d1 : decide (D < 365) = true := by simpa using hlt
        have hLb : -6000000000000 < B + (j : Int) ∧ B + (j : Int) < 6000000000000 := by omega
        have q1 := fun W : World => back_r (B + (j : Int)) W (by omega) (by omega)
        have hyl : D < yrL (B + (j : Int)) := by rw [HX.out.2.2.1]; simpa using hlt
        have hsum : ahd (B + (j : Int)) - ahd 2000 + D = n := by
          have a1 := HNR.out.1
          have a2 := HNR.out.2.1
          have a3 := HX.out.1
          omega
        have hbk : -10000000000000 < bkY (B + (j : Int)) ∧ bkY (B + (j : Int)) < 10000000000000 := by unfold bkY; split <;> omega
        have q2 := fun (m : Int) (W : World) (p : -1000000000000000 < m) (q : m < 1000000000000000) => length_r (bkY (B + (j : Int))) m W (by omega) (by omega) p q
        rw [ln_bk] at q2
        generalize B + (j : Int) = L at *
        have HT : Hid _ := And.intro q1 (And.intro q2 (And.intro hsum hyl))
        clear q1 q2 hsum hyl
        obtain ⟨hbk0, hbk1⟩ := hbk
        obtain ⟨hL0, hL1⟩ := hLb
        generalize hY : bkY L = Y at *
        have HY : Hid _ := hY
        clear hY
        go_wp2_with (first | (go_at_call 124; with_reducible refine Calls.mono (HLP.out _) ?_; rintro e w' ⟨rfl, hw⟩; subst hw) | (go_at_call 125; with_reducible refine Calls.mono (HT.out.1 _) ?_; rintro e w' ⟨rfl, hw⟩; subst hw))
        have HA2 := (HX.out.2.2.2.set 1 (.int .i64 Y)).set 2 (.int .i64 1)
        simp only [List.setIfInBounds_toArray, List.set_cons_zero, List.set_cons_succ] at HA2
        go_loopg [6] 11 (fun g v6 wx => ∃ (i : Nat) (E : Int), i + g = 11 ∧ v6 = .int .i64 E ∧ E = D - cum L i ∧ 0 ≤ E ∧ E < 400 ∧ AB2 w wx #[.int .i64 ak, .int .i64 Y, .int .i64 ((i : Int) + 1), .int .i64 ad, .int .i64 as_, .int .i64 an, .bool ah, .int .i64 az] mo0 44 44)
        case atStart => exact ⟨0, D, rfl, rfl, by simp [cum], hD0, by omega, HA2⟩
        case round =>
          obtain ⟨i, E, hig, rfl, hE, hE0, hE1, HA⟩ := hrel
          clear HA2
          obtain ⟨⟨g0, g1, g2, g3, g4, g5, g6, g7⟩, f0, f1, f2, f3, f4, f5, f6, f7⟩ := blk8 HA.x1
          obtain ⟨⟨r0', r1', r2', r3', r4', r5', r6', r7'⟩, t0', t1', t2', t3', t4', t5', t6', t7'⟩ := blk8 HA.x2
          have hlen := len_in (l := L) (m := (i : Int) + 1) (by omega) (by omega)
          have q3 := fun W : World => HT.out.2.1 ((i : Int) + 1) W (by omega) (by omega)
          have hcs : cum L (i + 1) = cum L i + lenL L ((i : Int) + 1) := rfl
          have hc12 := cum_twelve L
          obtain ⟨LN, hLN⟩ : ∃ LN, lenL L ((i : Int) + 1) = LN := ⟨_, rfl⟩
          rw [hLN] at hlen q3 hcs
          obtain ⟨hl0, hl1⟩ := hlen
          have HZ : Hid _ := And.intro hE (And.intro hcs (And.intro hc12 (And.intro HA (And.intro hLN q3))))
          clear hE hcs hc12 HA hLN q3
          have hi1 : (i : Int) ≤ 11 := by omega
          by_cases hge : LN ≤ E
          · have dd : decide (LN ≤ E) = true := by simpa using hge
            have dd2 : decide (E < LN) = false := by simp; omega
            have hi : i ≤ 10 := by
              rcases Nat.lt_or_ge i 11 with h | h
              · omega
              · have h11 : i = 11 := by omega
                have a1 := HZ.out.1
                have a2 := HZ.out.2.1
                have a3 := HZ.out.2.2.1
                have a4 := HT.out.2.2.2
                rw [h11] at a1 a2
                rw [a3] at a2
                omega
            obtain ⟨g', rfl⟩ : ∃ g', gk = g' + 1 := ⟨gk - 1, by omega⟩
            go_wp2_with (go_at_call 80; with_reducible refine Calls.mono (HZ.out.2.2.2.2.2 _) ?_; rintro e w' ⟨rfl, hw⟩; subst hw)
            go_roundg g'
            case measure => omega
            case rel =>
              have hx := HZ.out.2.2.2.1.set 2 (.int .i64 ((i : Int) + 1 + 1))
              simp only [List.setIfInBounds_toArray, List.set_cons_zero, List.set_cons_succ] at hx
              refine ⟨i + 1, E - LN, by omega, rfl, ?_, by omega, by omega, ?_⟩
              · have a1 := HZ.out.1
                have a2 := HZ.out.2.1
                omega
              · rw [show ((i + 1 : Nat) : Int) = (i : Int) + 1 by omega]
                exact hx
          · have dd : decide (LN ≤ E) = false := by simpa using hge
            have dd2 : decide (E < LN) = true := by simp; omega
            go_wp2_with (go_at_call 80; with_reducible refine Calls.mono (HZ.out.2.2.2.2.2 _) ?_; rintro e w' ⟨rfl, hw⟩; subst hw)
            have HA3 := HZ.out.2.2.2.1.set 3 (.int .i64 (E + 1))
            simp only [List.setIfInBounds_toArray, List.set_cons_zero, List.set_cons_succ] at HA3
            obtain ⟨U2, hU2, hx2, hb2, _⟩ := put8 (X := w.heap.size + 1) HA3.hb (by omega) HA3.x2 (.int .i64 ak) (.int .i64 Y) (.int .i64 ((i : Int) + 1)) (.int .i64 (E + 1)) (.int .i64 as_) (.int .i64 an) (.bool ah) (.int .i64 az)
            rw [hU2]
            obtain ⟨⟨k0, k1, k2, k3, k4, k5, k6, k7⟩, _⟩ := blk8 hx2
            obtain ⟨z1, z2, z3⟩ := found (n := n) (l := L) (r := D) (j := i) (by omega) HT.out.2.2.1 (by rw [← HZ.out.1]; exact hE0) (by rw [← HZ.out.1, HZ.out.2.2.2.2.1]; omega)
            refine bodyPost_ret (v := moV ⟨ak, Y, (i : Int) + 1, E + 1, as_, an, ah, az⟩) (by simp [results, Tryz.results83, go_sem, k0, k1, k2, k3, k4, k5, k6, k7]) rfl ⟨?_, hb2⟩
            rw [z1, z2, z3, HY.out, HZ.out.1]
      · have d1 : decide (D < 365) = false := by simpa using hlt
        go_wp2_with (go_at_call 124; with_reducible refine Calls.mono (HLP.out _) ?_; rintro e w' ⟨rfl, hw⟩; subst hw)
        go_roundg g
        case measure => omega
        case rel =>
          refine ⟨j + 1, D - 365, by omega, by simp [Int.add_assoc], rfl, ?_, by omega, by omega, HX.out.2.2.2⟩
          have a1 := HX.out.1
          have a2 := HX.out.2.1
          have a3 := HX.out.2.2.1
          simp at a3
          omega
    · by_cases hlt : D < 366
      · have d1 : decide (D < 366) = true := by simpa using hlt
        have hLb : -6000000000000 < B + (j : Int) ∧ B + (j : Int) < 6000000000000 := by omega
        have q1 := fun W : World => back_r (B + (j : Int)) W (by omega) (by omega)
        have hyl : D < yrL (B + (j : Int)) := by rw [HX.out.2.2.1]; simpa using hlt
        have hsum : ahd (B + (j : Int)) - ahd 2000 + D = n := by
          have a1 := HNR.out.1
          have a2 := HNR.out.2.1
          have a3 := HX.out.1
          omega
        have hbk : -10000000000000 < bkY (B + (j : Int)) ∧ bkY (B + (j : Int)) < 10000000000000 := by unfold bkY; split <;> omega
        have q2 := fun (m : Int) (W : World) (p : -1000000000000000 < m) (q : m < 1000000000000000) => length_r (bkY (B + (j : Int))) m W (by omega) (by omega) p q
        rw [ln_bk] at q2
        generalize B + (j : Int) = L at *
        have HT : Hid _ := And.intro q1 (And.intro q2 (And.intro hsum hyl))
        clear q1 q2 hsum hyl
        obtain ⟨hbk0, hbk1⟩ := hbk
        obtain ⟨hL0, hL1⟩ := hLb
        generalize hY : bkY L = Y at *
        have HY : Hid _ := hY
        clear hY
        go_wp2_with (first | (go_at_call 124; with_reducible refine Calls.mono (HLP.out _) ?_; rintro e w' ⟨rfl, hw⟩; subst hw) | (go_at_call 125; with_reducible refine Calls.mono (HT.out.1 _) ?_; rintro e w' ⟨rfl, hw⟩; subst hw))
        have HA2 := (HX.out.2.2.2.set 1 (.int .i64 Y)).set 2 (.int .i64 1)
        simp only [List.setIfInBounds_toArray, List.set_cons_zero, List.set_cons_succ] at HA2
        go_loopg [6] 11 (fun g v6 wx => ∃ (i : Nat) (E : Int), i + g = 11 ∧ v6 = .int .i64 E ∧ E = D - cum L i ∧ 0 ≤ E ∧ E < 400 ∧ AB2 w wx #[.int .i64 ak, .int .i64 Y, .int .i64 ((i : Int) + 1), .int .i64 ad, .int .i64 as_, .int .i64 an, .bool ah, .int .i64 az] mo0 44 44)
        case atStart => exact ⟨0, D, rfl, rfl, by simp [cum], hD0, by omega, HA2⟩
        case round =>
          obtain ⟨i, E, hig, rfl, hE, hE0, hE1, HA⟩ := hrel
          clear HA2
          obtain ⟨⟨g0, g1, g2, g3, g4, g5, g6, g7⟩, f0, f1, f2, f3, f4, f5, f6, f7⟩ := blk8 HA.x1
          obtain ⟨⟨r0', r1', r2', r3', r4', r5', r6', r7'⟩, t0', t1', t2', t3', t4', t5', t6', t7'⟩ := blk8 HA.x2
          have hlen := len_in (l := L) (m := (i : Int) + 1) (by omega) (by omega)
          have q3 := fun W : World => HT.out.2.1 ((i : Int) + 1) W (by omega) (by omega)
          have hcs : cum L (i + 1) = cum L i + lenL L ((i : Int) + 1) := rfl
          have hc12 := cum_twelve L
          obtain ⟨LN, hLN⟩ : ∃ LN, lenL L ((i : Int) + 1) = LN := ⟨_, rfl⟩
          rw [hLN] at hlen q3 hcs
          obtain ⟨hl0, hl1⟩ := hlen
          have HZ : Hid _ := And.intro hE (And.intro hcs (And.intro hc12 (And.intro HA (And.intro hLN q3))))
          clear hE hcs hc12 HA hLN q3
          have hi1 : (i : Int) ≤ 11 := by omega
          by_cases hge : LN ≤ E
          · have dd : decide (LN ≤ E) = true := by simpa using hge
            have dd2 : decide (E < LN) = false := by simp; omega
            have hi : i ≤ 10 := by
              rcases Nat.lt_or_ge i 11 with h | h
              · omega
              · have h11 : i = 11 := by omega
                have a1 := HZ.out.1
                have a2 := HZ.out.2.1
                have a3 := HZ.out.2.2.1
                have a4 := HT.out.2.2.2
                rw [h11] at a1 a2
                rw [a3] at a2
                omega
            obtain ⟨g', rfl⟩ : ∃ g', gk = g' + 1 := ⟨gk - 1, by omega⟩
            go_wp2_with (go_at_call 80; with_reducible refine Calls.mono (HZ.out.2.2.2.2.2 _) ?_; rintro e w' ⟨rfl, hw⟩; subst hw)
            go_roundg g'
            case measure => omega
            case rel =>
              have hx := HZ.out.2.2.2.1.set 2 (.int .i64 ((i : Int) + 1 + 1))
              simp only [List.setIfInBounds_toArray, List.set_cons_zero, List.set_cons_succ] at hx
              refine ⟨i + 1, E - LN, by omega, rfl, ?_, by omega, by omega, ?_⟩
              · have a1 := HZ.out.1
                have a2 := HZ.out.2.1
                omega
              · rw [show ((i + 1 : Nat) : Int) = (i : Int) + 1 by omega]
                exact hx
          · have dd : decide (LN ≤ E) = false := by simpa using hge
            have dd2 : decide (E < LN) = true := by simp; omega
            go_wp2_with (go_at_call 80; with_reducible refine Calls.mono (HZ.out.2.2.2.2.2 _) ?_; rintro e w' ⟨rfl, hw⟩; subst hw)
            have HA3 := HZ.out.2.2.2.1.set 3 (.int .i64 (E + 1))
            simp only [List.setIfInBounds_toArray, List.set_cons_zero, List.set_cons_succ] at HA3
            obtain ⟨U2, hU2, hx2, hb2, _⟩ := put8 (X := w.heap.size + 1) HA3.hb (by omega) HA3.x2 (.int .i64 ak) (.int .i64 Y) (.int .i64 ((i : Int) + 1)) (.int .i64 (E + 1)) (.int .i64 as_) (.int .i64 an) (.bool ah) (.int .i64 az)
            rw [hU2]
            obtain ⟨⟨k0, k1, k2, k3, k4, k5, k6, k7⟩, _⟩ := blk8 hx2
            obtain ⟨z1, z2, z3⟩ := found (n := n) (l := L) (r := D) (j := i) (by omega) HT.out.2.2.1 (by rw [← HZ.out.1]; exact hE0) (by rw [← HZ.out.1, HZ.out.2.2.2.2.1]; omega)
            refine bodyPost_ret (v := moV ⟨ak, Y, (i : Int) + 1, E + 1, as_, an, ah, az⟩) (by simp [results, Tryz.results83, go_sem, k0, k1, k2, k3, k4, k5, k6, k7]) rfl ⟨?_, hb2⟩
            rw [z1, z2, z3, HY.out, HZ.out.1]
      · have d1 : decide (D < 366) = false := by simpa using hlt
        go_wp2_with (go_at_call 124; with_reducible refine Calls.mono (HLP.out _) ?_; rintro e w' ⟨rfl, hw⟩; subst hw)
        go_roundg g
        case measure => omega
        case rel =>
          refine ⟨j + 1, D - 366, by omega, by simp [Int.add_assoc], rfl, ?_, by omega, by omega, HX.out.2.2.2⟩
          have a1 := HX.out.1
          have a2 := HX.out.2.1
          have a3 := HX.out.2.2.1
          simp at a3
          omega
end Go.Proofs.YtgaegajcejpmdaaGreatDoor.Dt
namespace Go.Proofs.YtgaegajcejpmdaaGreatDoor.Dt
open Go.RowKit
set_option linter.unusedVariables false

set_option maxHeartbeats 2000000 in
theorem add_r (a : Mo) (p : Sp) (w : World) (ha : MoB a) (hp : SpB p) : Calls Tryz.prog 93 #[moV a, spV p] w fun e w' => e = .returned (moV (addM a p)) ∧ Below w.heap.size w w' := by
  obtain ⟨k, y, m, d, s, n, hz, z⟩ := a
  obtain ⟨o, ps, pn⟩ := p
  obtain ⟨y0, y1, m0, m1, d0, d1, s0, s1, n0, n1⟩ := ha
  obtain ⟨o0, o1, ps0, ps1, pn0, pn1⟩ := hp
  dsimp only at *
  have c1 := fun W : World => div_r (m - 1 + o) 12 W (by omega) (by omega) (by omega) (by omega)
  have c1m := fun W : World => mod_r (m - 1 + o) 12 W (by omega) (by omega) (by omega) (by omega)
  have c2 := fun W : World => line_r y W (by omega) (by omega)
  have hln : -10000000001 < lnY y ∧ lnY y < 10000000001 := by unfold lnY; split <;> omega
  have c3 := fun W : World => back_r (lnY y + (m - 1 + o) / 12) W (by omega) (by omega)
  have hbk0 : -1000000000000 < bkY (lnY y + (m - 1 + o) / 12) ∧ bkY (lnY y + (m - 1 + o) / 12) < 1000000000000 := by unfold bkY; split <;> omega
  have c4 := fun W : World => length_r (bkY (lnY y + (m - 1 + o) / 12)) ((m - 1 + o) % 12 + 1) W (by omega) (by omega) (by omega) (by omega)
  rw [ln_bk] at c4
  have hlen := len_in (l := lnY y + (m - 1 + o) / 12) (m := (m - 1 + o) % 12 + 1) (by omega) (by omega)
  have b1 : -100000000000 < (m - 1 + o) / 12 ∧ (m - 1 + o) / 12 < 100000000000 := by omega
  have b2 := emod_in (m - 1 + o) (show (0 : Int) < 12 by omega)
  have c5 := fun W : World => div_r (n + pn) 1000000000 W (by omega) (by omega) (by omega) (by omega)
  have c5m := fun W : World => mod_r (n + pn) 1000000000 W (by omega) (by omega) (by omega) (by omega)
  have b3 : -100000000 < (n + pn) / 1000000000 ∧ (n + pn) / 1000000000 < 100000000 := by omega
  have b4 := emod_in (n + pn) (show (0 : Int) < 1000000000 by omega)
  have c6 := fun W : World => div_r (s + ps + (n + pn) / 1000000000) 86400 W (by omega) (by omega) (by omega) (by omega)
  have c6m := fun W : World => mod_r (s + ps + (n + pn) / 1000000000) 86400 W (by omega) (by omega) (by omega) (by omega)
  have b5 : -1000000000000 < (s + ps + (n + pn) / 1000000000) / 86400 ∧ (s + ps + (n + pn) / 1000000000) / 86400 < 1000000000000 := by omega
  have b6 := emod_in (s + ps + (n + pn) / 1000000000) (show (0 : Int) < 86400 by omega)
  have hE : addM ⟨k, y, m, d, s, n, hz, z⟩ ⟨o, ps, pn⟩ =
      ⟨k, bkY (civL (daysS (bkY (lnY y + (m - 1 + o) / 12)) ((m - 1 + o) % 12 + 1) (if lenL (lnY y + (m - 1 + o) / 12) ((m - 1 + o) % 12 + 1) < d then lenL (lnY y + (m - 1 + o) / 12) ((m - 1 + o) % 12 + 1) else d) + (s + ps + (n + pn) / 1000000000) / 86400)),
        (civM (daysS (bkY (lnY y + (m - 1 + o) / 12)) ((m - 1 + o) % 12 + 1) (if lenL (lnY y + (m - 1 + o) / 12) ((m - 1 + o) % 12 + 1) < d then lenL (lnY y + (m - 1 + o) / 12) ((m - 1 + o) % 12 + 1) else d) + (s + ps + (n + pn) / 1000000000) / 86400) : Nat),
        civD (daysS (bkY (lnY y + (m - 1 + o) / 12)) ((m - 1 + o) % 12 + 1) (if lenL (lnY y + (m - 1 + o) / 12) ((m - 1 + o) % 12 + 1) < d then lenL (lnY y + (m - 1 + o) / 12) ((m - 1 + o) % 12 + 1) else d) + (s + ps + (n + pn) / 1000000000) / 86400),
        (s + ps + (n + pn) / 1000000000) % 86400, (n + pn) % 1000000000, hz, z⟩ := rfl
  rw [hE]
  clear hE
  have hdb : ∀ l : Int, -100000000000000 < l → l < 100000000000000 → ∀ (j : Nat) (D : Int), j ≤ 12 → -10000000000 ≤ D → D ≤ 10000000000 → -99999999999999999 < dayN l j D ∧ dayN l j D < 99999999999999999 := by
    intro l l0 l1 j D hj D0 D1
    unfold dayN
    have := cum_nonneg l (j - 1)
    have := cum_le l (show j - 1 ≤ 12 by omega)
    unfold ahd
    omega
  clear hdb
  generalize hO : (m - 1 + o) % 12 = O at *
  generalize hV : (m - 1 + o) / 12 = V at *
  generalize hLy : lnY y = Ly at *
  generalize hNR : (n + pn) % 1000000000 = NR at *
  generalize hNV : (n + pn) / 1000000000 = NV at *
  generalize hSR : (s + ps + NV) % 86400 = SR at *
  generalize hSV : (s + ps + NV) / 86400 = SV at *
  have hY : lnY (bkY (Ly + V)) = Ly + V := ln_bk _
  generalize lenL (Ly + V) (O + 1) = LEN at *
  obtain ⟨hlen0, hlen1⟩ := hlen
  generalize hYY : bkY (Ly + V) = Y at *
  have hC : -10000000000 < (if LEN < d then LEN else d) ∧ (if LEN < d then LEN else d) < 10000000000 := by split <;> omega
  have hdays : -500000000000000 < daysS Y (O + 1) (if LEN < d then LEN else d) ∧ daysS Y (O + 1) (if LEN < d then LEN else d) < 500000000000000 := by
    unfold daysS dayN
    rw [hY]
    have h1 : (O + 1 - 1) / 12 = 0 := by omega
    rw [h1, Int.add_zero, Nat.add_sub_cancel]
    have := cum_nonneg (Ly + V) ((O + 1 - 1) % 12).toNat
    have := cum_le (Ly + V) (show ((O + 1 - 1) % 12).toNat ≤ 12 by omega)
    have ha : -200000000000000 < ahd (Ly + V) ∧ ahd (Ly + V) < 200000000000000 := by unfold ahd; omega
    have hb : ahd 2000 = 730485 := by decide
    omega
  have c7 := fun W : World => days_r Y (O + 1) (if LEN < d then LEN else d) W hbk0.1 hbk0.2 (by omega) (by omega) (by omega) (by omega)
  generalize hCC : (if LEN < d then LEN else d) = C at *
  have c8 := fun W : World => put_r ⟨k, Y, O + 1, C, SR, NR, hz, z⟩ (daysS Y (O + 1) C + SV) W (by omega) (by omega)
  have HC : Hid _ := And.intro c1 (And.intro c1m (And.intro c2 (And.intro c3 (And.intro c4 (And.intro c5 (And.intro c5m (And.intro c6 (And.intro c6m (And.intro c7 (c8))))))))))
  clear c1 c1m c2 c3 c4 c5 c5m c6 c6m c7 c8
  generalize daysS Y (O + 1) C = DD at *
  obtain ⟨RR, hRR⟩ : ∃ RR : Mo, RR = ⟨k, bkY (civL (DD + SV)), (civM (DD + SV) : Nat), civD (DD + SV), SR, NR, hz, z⟩ := ⟨_, rfl⟩
  have HRR : Hid _ := hRR
  rw [← hRR] at HC ⊢
  clear hRR
  obtain ⟨b11, b12⟩ := b1
  obtain ⟨b21, b22⟩ := b2
  obtain ⟨b31, b32⟩ := b3
  obtain ⟨b41, b42⟩ := b4
  obtain ⟨b51, b52⟩ := b5
  obtain ⟨b61, b62⟩ := b6
  obtain ⟨hdays0, hdays1⟩ := hdays
  obtain ⟨hC0, hC1⟩ := hC
  obtain ⟨hbk1, hbk2⟩ := hbk0
  obtain ⟨hln0, hln1⟩ := hln
  clear hO hV hLy hNR hNV hSR hSV hY hYY
  have HA0 := AB.init w #[.int .i64 k, .int .i64 y, .int .i64 m, .int .i64 d, .int .i64 s, .int .i64 n, .bool hz, .int .i64 z] #[.int .i64 o, .int .i64 ps, .int .i64 pn] mo0 44 45 44
  by_cases hcut : LEN < d
  · rw [if_pos hcut] at hCC
    subst hCC
    go_enter Tryz.func93, Tryz.ntmps93
    go_wp2_with (first | (go_at_call 126; with_reducible refine Calls.mono (HC.out.2.2.1 _) ?_; rintro e w' ⟨rfl, hw⟩; subst hw) | (go_at_call 122; with_reducible refine Calls.mono (HC.out.1 _) ?_; rintro e w' ⟨rfl, hw⟩; subst hw) | (go_at_call 125; with_reducible refine Calls.mono (HC.out.2.2.2.1 _) ?_; rintro e w' ⟨rfl, hw⟩; subst hw) | (go_at_call 123; with_reducible refine Calls.mono (HC.out.2.1 _) ?_; rintro e w' ⟨rfl, hw⟩; subst hw))
    obtain ⟨U, hU, HA⟩ := AB.ex (AB.init w #[.int .i64 k, .int .i64 Y, .int .i64 (O + 1), .int .i64 d, .int .i64 s, .int .i64 n, .bool hz, .int .i64 z] #[.int .i64 o, .int .i64 ps, .int .i64 pn] mo0 44 45 44)
    rw [hU]
    clear hU HA0
    obtain ⟨⟨g0, g1, g2, g3, g4, g5, g6, g7⟩, f0, f1, f2, f3, f4, f5, f6, f7⟩ := blk8 HA.x1
    have HAH : Hid _ := HA
    clear HA
    go_quiet ((go_at_call 80; exact Calls.quiet_of_same (HC.out.2.2.2.2.1 _)))
    go_upto_region 7 with (first | (go_at_call 80; with_reducible refine Calls.mono (HC.out.2.2.2.2.1 _) ?_; rintro e w' ⟨rfl, hw⟩; subst hw))
    obtain ⟨U1, hU1, HA⟩ := AB.ex ((HAH.out.drew nq).set 3 (.int .i64 LEN))
    rw [hU1]
    clear hU1 HAH g0 g1 g2 g3 g4 g5 g6 g7 f0 f1 f2 f3 f4 f5 f6 f7
    simp only [List.setIfInBounds_toArray, List.set_cons_zero, List.set_cons_succ] at HA
    obtain ⟨⟨g0, g1, g2, g3, g4, g5, g6, g7⟩, f0, f1, f2, f3, f4, f5, f6, f7⟩ := blk8 HA.x1
    obtain ⟨p0, p1, p2⟩ := blk3 HA.x2
    have HAH : Hid _ := HA
    clear HA
    go_wp2_with fail
    go_quiet ((go_at_call 122; exact Calls.quiet_of_same (HC.out.2.2.2.2.2.1 _)))
    go_wp2_with (first | (go_at_call 123; with_reducible refine Calls.mono (HC.out.2.2.2.2.2.2.1 _) ?_; rintro e w' ⟨rfl, hw⟩; subst hw) | (go_at_call 123; with_reducible refine Calls.mono (HC.out.2.2.2.2.2.2.2.2.1 _) ?_; rintro e w' ⟨rfl, hw⟩; subst hw))
    obtain ⟨U2, hU2, HA⟩ := AB.ex (((HAH.out.drew nq).set 5 (.int .i64 NR)).set 4 (.int .i64 SR))
    rw [hU2]
    simp only [List.setIfInBounds_toArray, List.set_cons_zero, List.set_cons_succ] at HA
    clear hU2 HAH g0 g1 g2 g3 g4 g5 g6 g7 f0 f1 f2 f3 f4 f5 f6 f7 p0 p1 p2
    have hkp : ∀ W, Below U2.heap.size U2 W → (W.cell? ⟨w.heap.size, 0, none⟩ = some (.int .i64 k) ∧ W.cell? ⟨w.heap.size, 1, none⟩ = some (.int .i64 Y) ∧ W.cell? ⟨w.heap.size, 2, none⟩ = some (.int .i64 (O + 1)) ∧ W.cell? ⟨w.heap.size, 3, none⟩ = some (.int .i64 LEN) ∧ W.cell? ⟨w.heap.size, 4, none⟩ = some (.int .i64 SR) ∧ W.cell? ⟨w.heap.size, 5, none⟩ = some (.int .i64 NR) ∧ W.cell? ⟨w.heap.size, 6, none⟩ = some (.bool hz) ∧ W.cell? ⟨w.heap.size, 7, none⟩ = some (.int .i64 z)) := fun W hW => by
      obtain ⟨⟨g0, g1, g2, g3, g4, g5, g6, g7⟩, _⟩ := blk8 ((hW.block _ (lt_of HA.x1)).trans HA.x1)
      exact ⟨g0, g1, g2, g3, g4, g5, g6, g7⟩
    obtain ⟨g0, g1, g2, g3, g4, g5, g6, g7⟩ := hkp U2.drew (below_drewN 1)
    have HB : Hid (Below U2.heap.size U2 U2.drew) := below_drewN 1
    have HKP : Hid _ := And.intro hkp HA
    clear hkp
    have xr : U2.drew.heap[w.heap.size + 1 + 1]? = some (.cells mo0 44 (0, 0)) := HA.x3
    clear HA
    have hwr : IntKind.i64.wrap (DD + SV) = DD + SV := by rw [IntKind.wrap_i64]; omega
    have hst : ∀ (W : World) (v0 v1 v2 v3 v4 v5 v6 v7 : Value), (W.cell? ⟨w.heap.size, 0, none⟩ = some (.int .i64 k) ∧ W.cell? ⟨w.heap.size, 1, none⟩ = some (.int .i64 Y) ∧ W.cell? ⟨w.heap.size, 2, none⟩ = some (.int .i64 (O + 1)) ∧ W.cell? ⟨w.heap.size, 3, none⟩ = some (.int .i64 LEN) ∧ W.cell? ⟨w.heap.size, 4, none⟩ = some (.int .i64 SR) ∧ W.cell? ⟨w.heap.size, 5, none⟩ = some (.int .i64 NR) ∧ W.cell? ⟨w.heap.size, 6, none⟩ = some (.bool hz) ∧ W.cell? ⟨w.heap.size, 7, none⟩ = some (.int .i64 z)) → (((((((((W.setCell ⟨w.heap.size + 1 + 1, 0, none⟩ v0).setCell ⟨w.heap.size + 1 + 1, 1, none⟩ v1).setCell ⟨w.heap.size + 1 + 1, 2, none⟩ v2).setCell ⟨w.heap.size + 1 + 1, 3, none⟩ v3).setCell ⟨w.heap.size + 1 + 1, 4, none⟩ v4).setCell ⟨w.heap.size + 1 + 1, 5, none⟩ v5).setCell ⟨w.heap.size + 1 + 1, 6, none⟩ v6).setCell ⟨w.heap.size + 1 + 1, 7, none⟩ v7).cell? ⟨w.heap.size, 0, none⟩ = some (.int .i64 k) ∧ ((((((((W.setCell ⟨w.heap.size + 1 + 1, 0, none⟩ v0).setCell ⟨w.heap.size + 1 + 1, 1, none⟩ v1).setCell ⟨w.heap.size + 1 + 1, 2, none⟩ v2).setCell ⟨w.heap.size + 1 + 1, 3, none⟩ v3).setCell ⟨w.heap.size + 1 + 1, 4, none⟩ v4).setCell ⟨w.heap.size + 1 + 1, 5, none⟩ v5).setCell ⟨w.heap.size + 1 + 1, 6, none⟩ v6).setCell ⟨w.heap.size + 1 + 1, 7, none⟩ v7).cell? ⟨w.heap.size, 1, none⟩ = some (.int .i64 Y) ∧ ((((((((W.setCell ⟨w.heap.size + 1 + 1, 0, none⟩ v0).setCell ⟨w.heap.size + 1 + 1, 1, none⟩ v1).setCell ⟨w.heap.size + 1 + 1, 2, none⟩ v2).setCell ⟨w.heap.size + 1 + 1, 3, none⟩ v3).setCell ⟨w.heap.size + 1 + 1, 4, none⟩ v4).setCell ⟨w.heap.size + 1 + 1, 5, none⟩ v5).setCell ⟨w.heap.size + 1 + 1, 6, none⟩ v6).setCell ⟨w.heap.size + 1 + 1, 7, none⟩ v7).cell? ⟨w.heap.size, 2, none⟩ = some (.int .i64 (O + 1)) ∧ ((((((((W.setCell ⟨w.heap.size + 1 + 1, 0, none⟩ v0).setCell ⟨w.heap.size + 1 + 1, 1, none⟩ v1).setCell ⟨w.heap.size + 1 + 1, 2, none⟩ v2).setCell ⟨w.heap.size + 1 + 1, 3, none⟩ v3).setCell ⟨w.heap.size + 1 + 1, 4, none⟩ v4).setCell ⟨w.heap.size + 1 + 1, 5, none⟩ v5).setCell ⟨w.heap.size + 1 + 1, 6, none⟩ v6).setCell ⟨w.heap.size + 1 + 1, 7, none⟩ v7).cell? ⟨w.heap.size, 3, none⟩ = some (.int .i64 LEN) ∧ ((((((((W.setCell ⟨w.heap.size + 1 + 1, 0, none⟩ v0).setCell ⟨w.heap.size + 1 + 1, 1, none⟩ v1).setCell ⟨w.heap.size + 1 + 1, 2, none⟩ v2).setCell ⟨w.heap.size + 1 + 1, 3, none⟩ v3).setCell ⟨w.heap.size + 1 + 1, 4, none⟩ v4).setCell ⟨w.heap.size + 1 + 1, 5, none⟩ v5).setCell ⟨w.heap.size + 1 + 1, 6, none⟩ v6).setCell ⟨w.heap.size + 1 + 1, 7, none⟩ v7).cell? ⟨w.heap.size, 4, none⟩ = some (.int .i64 SR) ∧ ((((((((W.setCell ⟨w.heap.size + 1 + 1, 0, none⟩ v0).setCell ⟨w.heap.size + 1 + 1, 1, none⟩ v1).setCell ⟨w.heap.size + 1 + 1, 2, none⟩ v2).setCell ⟨w.heap.size + 1 + 1, 3, none⟩ v3).setCell ⟨w.heap.size + 1 + 1, 4, none⟩ v4).setCell ⟨w.heap.size + 1 + 1, 5, none⟩ v5).setCell ⟨w.heap.size + 1 + 1, 6, none⟩ v6).setCell ⟨w.heap.size + 1 + 1, 7, none⟩ v7).cell? ⟨w.heap.size, 5, none⟩ = some (.int .i64 NR) ∧ ((((((((W.setCell ⟨w.heap.size + 1 + 1, 0, none⟩ v0).setCell ⟨w.heap.size + 1 + 1, 1, none⟩ v1).setCell ⟨w.heap.size + 1 + 1, 2, none⟩ v2).setCell ⟨w.heap.size + 1 + 1, 3, none⟩ v3).setCell ⟨w.heap.size + 1 + 1, 4, none⟩ v4).setCell ⟨w.heap.size + 1 + 1, 5, none⟩ v5).setCell ⟨w.heap.size + 1 + 1, 6, none⟩ v6).setCell ⟨w.heap.size + 1 + 1, 7, none⟩ v7).cell? ⟨w.heap.size, 6, none⟩ = some (.bool hz) ∧ ((((((((W.setCell ⟨w.heap.size + 1 + 1, 0, none⟩ v0).setCell ⟨w.heap.size + 1 + 1, 1, none⟩ v1).setCell ⟨w.heap.size + 1 + 1, 2, none⟩ v2).setCell ⟨w.heap.size + 1 + 1, 3, none⟩ v3).setCell ⟨w.heap.size + 1 + 1, 4, none⟩ v4).setCell ⟨w.heap.size + 1 + 1, 5, none⟩ v5).setCell ⟨w.heap.size + 1 + 1, 6, none⟩ v6).setCell ⟨w.heap.size + 1 + 1, 7, none⟩ v7).cell? ⟨w.heap.size, 7, none⟩ = some (.int .i64 z)) := fun W v0 v1 v2 v3 v4 v5 v6 v7 h => by
      have hh : ∀ i, ((((((((W.setCell ⟨w.heap.size + 1 + 1, 0, none⟩ v0).setCell ⟨w.heap.size + 1 + 1, 1, none⟩ v1).setCell ⟨w.heap.size + 1 + 1, 2, none⟩ v2).setCell ⟨w.heap.size + 1 + 1, 3, none⟩ v3).setCell ⟨w.heap.size + 1 + 1, 4, none⟩ v4).setCell ⟨w.heap.size + 1 + 1, 5, none⟩ v5).setCell ⟨w.heap.size + 1 + 1, 6, none⟩ v6).setCell ⟨w.heap.size + 1 + 1, 7, none⟩ v7).cell? ⟨w.heap.size, i, none⟩ = W.cell? ⟨w.heap.size, i, none⟩ := fun i => by
        simp only [World.cell?]
        rw [Below.heap_setCell _ _ _ _ (by simp; omega), Below.heap_setCell _ _ _ _ (by simp; omega), Below.heap_setCell _ _ _ _ (by simp; omega), Below.heap_setCell _ _ _ _ (by simp; omega), Below.heap_setCell _ _ _ _ (by simp; omega), Below.heap_setCell _ _ _ _ (by simp; omega), Below.heap_setCell _ _ _ _ (by simp; omega), Below.heap_setCell _ _ _ _ (by simp; omega)]
      rw [hh, hh, hh, hh, hh, hh, hh, hh]
      exact h
    have HST : Hid _ := hst
    clear hst
    go_region_held3 (fun W => W.cell? ⟨w.heap.size, 0, none⟩ = some (.int .i64 k) ∧ W.cell? ⟨w.heap.size, 1, none⟩ = some (.int .i64 Y) ∧ W.cell? ⟨w.heap.size, 2, none⟩ = some (.int .i64 (O + 1)) ∧ W.cell? ⟨w.heap.size, 3, none⟩ = some (.int .i64 LEN) ∧ W.cell? ⟨w.heap.size, 4, none⟩ = some (.int .i64 SR) ∧ W.cell? ⟨w.heap.size, 5, none⟩ = some (.int .i64 NR) ∧ W.cell? ⟨w.heap.size, 6, none⟩ = some (.bool hz) ∧ W.cell? ⟨w.heap.size, 7, none⟩ = some (.int .i64 z)) (first | with_reducible exact ⟨g0, g1, g2, g3, g4, g5, g6, g7⟩ | with_reducible exact HST.out _ _ _ _ _ _ _ _ _ ⟨g0, g1, g2, g3, g4, g5, g6, g7⟩ | fail) (first
      | (go_at_call 84; (with_reducible refine Calls.mono (HC.out.2.2.2.2.2.2.2.2.2.1 _) ?_); rintro e w9 ⟨rfl, hw⟩; subst hw)
      | (go_at_call 122; (with_reducible refine Calls.mono (HC.out.2.2.2.2.2.2.2.1 _) ?_); rintro e w9 ⟨rfl, hw⟩; subst hw)
      | (go_at_call 83; (with_reducible refine Calls.mono (HC.out.2.2.2.2.2.2.2.2.2.2 _) ?_); rintro e w9 ⟨rfl, hb9⟩; have hbb := HB.out.trans (hb9.mono HB.out.size); have xr9 := (hb9.block _ (lt_of xr)).trans xr; obtain ⟨⟨r0, r1, r2, r3, r4, r5, r6, r7⟩, t0, t1, t2, t3, t4, t5, t6, t7⟩ := blk8 xr9; clear HB g0 g1 g2 g3 g4 g5 g6 g7; obtain ⟨g0, g1, g2, g3, g4, g5, g6, g7⟩ := HKP.out.1 _ hbb; have HB : Hid _ := hbb; have HE : Hid _ := And.intro hbb xr9; clear hb9 hbb xr9)
      | fail)
    all_goals
      go_wp2_with fail
      obtain ⟨U3, hU3, hx3, hb3, _⟩ := put8 (N := w.heap.size) (X := w.heap.size + 1 + 1) (HKP.out.2.hb.trans (HE.out.1.mono HKP.out.2.hb.size)) (by omega) HE.out.2 (.int .i64 RR.k) (.int .i64 RR.y) (.int .i64 RR.m) (.int .i64 RR.d) (.int .i64 RR.s) (.int .i64 RR.n) (.bool RR.hz) (.int .i64 RR.z)
      rw [hU3]
      obtain ⟨⟨k0, k1, k2, k3, k4, k5, k6, k7⟩, _⟩ := blk8 hx3
      exact bodyPost_ret (v := moV RR) (by simp [results, Tryz.results93, go_sem, k0, k1, k2, k3, k4, k5, k6, k7]) rfl ⟨rfl, hb3⟩
  · rw [if_neg hcut] at hCC
    subst hCC
    go_enter Tryz.func93, Tryz.ntmps93
    go_wp2_with (first | (go_at_call 126; with_reducible refine Calls.mono (HC.out.2.2.1 _) ?_; rintro e w' ⟨rfl, hw⟩; subst hw) | (go_at_call 122; with_reducible refine Calls.mono (HC.out.1 _) ?_; rintro e w' ⟨rfl, hw⟩; subst hw) | (go_at_call 125; with_reducible refine Calls.mono (HC.out.2.2.2.1 _) ?_; rintro e w' ⟨rfl, hw⟩; subst hw) | (go_at_call 123; with_reducible refine Calls.mono (HC.out.2.1 _) ?_; rintro e w' ⟨rfl, hw⟩; subst hw))
    obtain ⟨U, hU, HA⟩ := AB.ex (AB.init w #[.int .i64 k, .int .i64 Y, .int .i64 (O + 1), .int .i64 d, .int .i64 s, .int .i64 n, .bool hz, .int .i64 z] #[.int .i64 o, .int .i64 ps, .int .i64 pn] mo0 44 45 44)
    rw [hU]
    clear hU HA0
    obtain ⟨⟨g0, g1, g2, g3, g4, g5, g6, g7⟩, f0, f1, f2, f3, f4, f5, f6, f7⟩ := blk8 HA.x1
    have HAH : Hid _ := HA
    clear HA
    go_quiet ((go_at_call 80; exact Calls.quiet_of_same (HC.out.2.2.2.2.1 _)))
    go_upto_region 7 with fail
    obtain ⟨U1, hU1, HA⟩ := AB.ex (HAH.out.drew nq)
    rw [hU1]
    clear hU1 HAH g0 g1 g2 g3 g4 g5 g6 g7 f0 f1 f2 f3 f4 f5 f6 f7
    obtain ⟨⟨g0, g1, g2, g3, g4, g5, g6, g7⟩, f0, f1, f2, f3, f4, f5, f6, f7⟩ := blk8 HA.x1
    obtain ⟨p0, p1, p2⟩ := blk3 HA.x2
    have HAH : Hid _ := HA
    clear HA
    go_wp2_with fail
    go_quiet ((go_at_call 122; exact Calls.quiet_of_same (HC.out.2.2.2.2.2.1 _)))
    go_wp2_with (first | (go_at_call 123; with_reducible refine Calls.mono (HC.out.2.2.2.2.2.2.1 _) ?_; rintro e w' ⟨rfl, hw⟩; subst hw) | (go_at_call 123; with_reducible refine Calls.mono (HC.out.2.2.2.2.2.2.2.2.1 _) ?_; rintro e w' ⟨rfl, hw⟩; subst hw))
    obtain ⟨U2, hU2, HA⟩ := AB.ex (((HAH.out.drew nq).set 5 (.int .i64 NR)).set 4 (.int .i64 SR))
    rw [hU2]
    simp only [List.setIfInBounds_toArray, List.set_cons_zero, List.set_cons_succ] at HA
    clear hU2 HAH g0 g1 g2 g3 g4 g5 g6 g7 f0 f1 f2 f3 f4 f5 f6 f7 p0 p1 p2
    have hkp : ∀ W, Below U2.heap.size U2 W → (W.cell? ⟨w.heap.size, 0, none⟩ = some (.int .i64 k) ∧ W.cell? ⟨w.heap.size, 1, none⟩ = some (.int .i64 Y) ∧ W.cell? ⟨w.heap.size, 2, none⟩ = some (.int .i64 (O + 1)) ∧ W.cell? ⟨w.heap.size, 3, none⟩ = some (.int .i64 d) ∧ W.cell? ⟨w.heap.size, 4, none⟩ = some (.int .i64 SR) ∧ W.cell? ⟨w.heap.size, 5, none⟩ = some (.int .i64 NR) ∧ W.cell? ⟨w.heap.size, 6, none⟩ = some (.bool hz) ∧ W.cell? ⟨w.heap.size, 7, none⟩ = some (.int .i64 z)) := fun W hW => by
      obtain ⟨⟨g0, g1, g2, g3, g4, g5, g6, g7⟩, _⟩ := blk8 ((hW.block _ (lt_of HA.x1)).trans HA.x1)
      exact ⟨g0, g1, g2, g3, g4, g5, g6, g7⟩
    obtain ⟨g0, g1, g2, g3, g4, g5, g6, g7⟩ := hkp U2.drew (below_drewN 1)
    have HB : Hid (Below U2.heap.size U2 U2.drew) := below_drewN 1
    have HKP : Hid _ := And.intro hkp HA
    clear hkp
    have xr : U2.drew.heap[w.heap.size + 1 + 1]? = some (.cells mo0 44 (0, 0)) := HA.x3
    clear HA
    have hwr : IntKind.i64.wrap (DD + SV) = DD + SV := by rw [IntKind.wrap_i64]; omega
    have hst : ∀ (W : World) (v0 v1 v2 v3 v4 v5 v6 v7 : Value), (W.cell? ⟨w.heap.size, 0, none⟩ = some (.int .i64 k) ∧ W.cell? ⟨w.heap.size, 1, none⟩ = some (.int .i64 Y) ∧ W.cell? ⟨w.heap.size, 2, none⟩ = some (.int .i64 (O + 1)) ∧ W.cell? ⟨w.heap.size, 3, none⟩ = some (.int .i64 d) ∧ W.cell? ⟨w.heap.size, 4, none⟩ = some (.int .i64 SR) ∧ W.cell? ⟨w.heap.size, 5, none⟩ = some (.int .i64 NR) ∧ W.cell? ⟨w.heap.size, 6, none⟩ = some (.bool hz) ∧ W.cell? ⟨w.heap.size, 7, none⟩ = some (.int .i64 z)) → (((((((((W.setCell ⟨w.heap.size + 1 + 1, 0, none⟩ v0).setCell ⟨w.heap.size + 1 + 1, 1, none⟩ v1).setCell ⟨w.heap.size + 1 + 1, 2, none⟩ v2).setCell ⟨w.heap.size + 1 + 1, 3, none⟩ v3).setCell ⟨w.heap.size + 1 + 1, 4, none⟩ v4).setCell ⟨w.heap.size + 1 + 1, 5, none⟩ v5).setCell ⟨w.heap.size + 1 + 1, 6, none⟩ v6).setCell ⟨w.heap.size + 1 + 1, 7, none⟩ v7).cell? ⟨w.heap.size, 0, none⟩ = some (.int .i64 k) ∧ ((((((((W.setCell ⟨w.heap.size + 1 + 1, 0, none⟩ v0).setCell ⟨w.heap.size + 1 + 1, 1, none⟩ v1).setCell ⟨w.heap.size + 1 + 1, 2, none⟩ v2).setCell ⟨w.heap.size + 1 + 1, 3, none⟩ v3).setCell ⟨w.heap.size + 1 + 1, 4, none⟩ v4).setCell ⟨w.heap.size + 1 + 1, 5, none⟩ v5).setCell ⟨w.heap.size + 1 + 1, 6, none⟩ v6).setCell ⟨w.heap.size + 1 + 1, 7, none⟩ v7).cell? ⟨w.heap.size, 1, none⟩ = some (.int .i64 Y) ∧ ((((((((W.setCell ⟨w.heap.size + 1 + 1, 0, none⟩ v0).setCell ⟨w.heap.size + 1 + 1, 1, none⟩ v1).setCell ⟨w.heap.size + 1 + 1, 2, none⟩ v2).setCell ⟨w.heap.size + 1 + 1, 3, none⟩ v3).setCell ⟨w.heap.size + 1 + 1, 4, none⟩ v4).setCell ⟨w.heap.size + 1 + 1, 5, none⟩ v5).setCell ⟨w.heap.size + 1 + 1, 6, none⟩ v6).setCell ⟨w.heap.size + 1 + 1, 7, none⟩ v7).cell? ⟨w.heap.size, 2, none⟩ = some (.int .i64 (O + 1)) ∧ ((((((((W.setCell ⟨w.heap.size + 1 + 1, 0, none⟩ v0).setCell ⟨w.heap.size + 1 + 1, 1, none⟩ v1).setCell ⟨w.heap.size + 1 + 1, 2, none⟩ v2).setCell ⟨w.heap.size + 1 + 1, 3, none⟩ v3).setCell ⟨w.heap.size + 1 + 1, 4, none⟩ v4).setCell ⟨w.heap.size + 1 + 1, 5, none⟩ v5).setCell ⟨w.heap.size + 1 + 1, 6, none⟩ v6).setCell ⟨w.heap.size + 1 + 1, 7, none⟩ v7).cell? ⟨w.heap.size, 3, none⟩ = some (.int .i64 d) ∧ ((((((((W.setCell ⟨w.heap.size + 1 + 1, 0, none⟩ v0).setCell ⟨w.heap.size + 1 + 1, 1, none⟩ v1).setCell ⟨w.heap.size + 1 + 1, 2, none⟩ v2).setCell ⟨w.heap.size + 1 + 1, 3, none⟩ v3).setCell ⟨w.heap.size + 1 + 1, 4, none⟩ v4).setCell ⟨w.heap.size + 1 + 1, 5, none⟩ v5).setCell ⟨w.heap.size + 1 + 1, 6, none⟩ v6).setCell ⟨w.heap.size + 1 + 1, 7, none⟩ v7).cell? ⟨w.heap.size, 4, none⟩ = some (.int .i64 SR) ∧ ((((((((W.setCell ⟨w.heap.size + 1 + 1, 0, none⟩ v0).setCell ⟨w.heap.size + 1 + 1, 1, none⟩ v1).setCell ⟨w.heap.size + 1 + 1, 2, none⟩ v2).setCell ⟨w.heap.size + 1 + 1, 3, none⟩ v3).setCell ⟨w.heap.size + 1 + 1, 4, none⟩ v4).setCell ⟨w.heap.size + 1 + 1, 5, none⟩ v5).setCell ⟨w.heap.size + 1 + 1, 6, none⟩ v6).setCell ⟨w.heap.size + 1 + 1, 7, none⟩ v7).cell? ⟨w.heap.size, 5, none⟩ = some (.int .i64 NR) ∧ ((((((((W.setCell ⟨w.heap.size + 1 + 1, 0, none⟩ v0).setCell ⟨w.heap.size + 1 + 1, 1, none⟩ v1).setCell ⟨w.heap.size + 1 + 1, 2, none⟩ v2).setCell ⟨w.heap.size + 1 + 1, 3, none⟩ v3).setCell ⟨w.heap.size + 1 + 1, 4, none⟩ v4).setCell ⟨w.heap.size + 1 + 1, 5, none⟩ v5).setCell ⟨w.heap.size + 1 + 1, 6, none⟩ v6).setCell ⟨w.heap.size + 1 + 1, 7, none⟩ v7).cell? ⟨w.heap.size, 6, none⟩ = some (.bool hz) ∧ ((((((((W.setCell ⟨w.heap.size + 1 + 1, 0, none⟩ v0).setCell ⟨w.heap.size + 1 + 1, 1, none⟩ v1).setCell ⟨w.heap.size + 1 + 1, 2, none⟩ v2).setCell ⟨w.heap.size + 1 + 1, 3, none⟩ v3).setCell ⟨w.heap.size + 1 + 1, 4, none⟩ v4).setCell ⟨w.heap.size + 1 + 1, 5, none⟩ v5).setCell ⟨w.heap.size + 1 + 1, 6, none⟩ v6).setCell ⟨w.heap.size + 1 + 1, 7, none⟩ v7).cell? ⟨w.heap.size, 7, none⟩ = some (.int .i64 z)) := fun W v0 v1 v2 v3 v4 v5 v6 v7 h => by
      have hh : ∀ i, ((((((((W.setCell ⟨w.heap.size + 1 + 1, 0, none⟩ v0).setCell ⟨w.heap.size + 1 + 1, 1, none⟩ v1).setCell ⟨w.heap.size + 1 + 1, 2, none⟩ v2).setCell ⟨w.heap.size + 1 + 1, 3, none⟩ v3).setCell ⟨w.heap.size + 1 + 1, 4, none⟩ v4).setCell ⟨w.heap.size + 1 + 1, 5, none⟩ v5).setCell ⟨w.heap.size + 1 + 1, 6, none⟩ v6).setCell ⟨w.heap.size + 1 + 1, 7, none⟩ v7).cell? ⟨w.heap.size, i, none⟩ = W.cell? ⟨w.heap.size, i, none⟩ := fun i => by
        simp only [World.cell?]
        rw [Below.heap_setCell _ _ _ _ (by simp; omega), Below.heap_setCell _ _ _ _ (by simp; omega), Below.heap_setCell _ _ _ _ (by simp; omega), Below.heap_setCell _ _ _ _ (by simp; omega), Below.heap_setCell _ _ _ _ (by simp; omega), Below.heap_setCell _ _ _ _ (by simp; omega), Below.heap_setCell _ _ _ _ (by simp; omega), Below.heap_setCell _ _ _ _ (by simp; omega)]
      rw [hh, hh, hh, hh, hh, hh, hh, hh]
      exact h
    have HST : Hid _ := hst
    clear hst
    go_region_held3 (fun W => W.cell? ⟨w.heap.size, 0, none⟩ = some (.int .i64 k) ∧ W.cell? ⟨w.heap.size, 1, none⟩ = some (.int .i64 Y) ∧ W.cell? ⟨w.heap.size, 2, none⟩ = some (.int .i64 (O + 1)) ∧ W.cell? ⟨w.heap.size, 3, none⟩ = some (.int .i64 d) ∧ W.cell? ⟨w.heap.size, 4, none⟩ = some (.int .i64 SR) ∧ W.cell? ⟨w.heap.size, 5, none⟩ = some (.int .i64 NR) ∧ W.cell? ⟨w.heap.size, 6, none⟩ = some (.bool hz) ∧ W.cell? ⟨w.heap.size, 7, none⟩ = some (.int .i64 z)) (first | with_reducible exact ⟨g0, g1, g2, g3, g4, g5, g6, g7⟩ | with_reducible exact HST.out _ _ _ _ _ _ _ _ _ ⟨g0, g1, g2, g3, g4, g5, g6, g7⟩ | fail) (first
      | (go_at_call 84; (with_reducible refine Calls.mono (HC.out.2.2.2.2.2.2.2.2.2.1 _) ?_); rintro e w9 ⟨rfl, hw⟩; subst hw)
      | (go_at_call 122; (with_reducible refine Calls.mono (HC.out.2.2.2.2.2.2.2.1 _) ?_); rintro e w9 ⟨rfl, hw⟩; subst hw)
      | (go_at_call 83; (with_reducible refine Calls.mono (HC.out.2.2.2.2.2.2.2.2.2.2 _) ?_); rintro e w9 ⟨rfl, hb9⟩; have hbb := HB.out.trans (hb9.mono HB.out.size); have xr9 := (hb9.block _ (lt_of xr)).trans xr; obtain ⟨⟨r0, r1, r2, r3, r4, r5, r6, r7⟩, t0, t1, t2, t3, t4, t5, t6, t7⟩ := blk8 xr9; clear HB g0 g1 g2 g3 g4 g5 g6 g7; obtain ⟨g0, g1, g2, g3, g4, g5, g6, g7⟩ := HKP.out.1 _ hbb; have HB : Hid _ := hbb; have HE : Hid _ := And.intro hbb xr9; clear hb9 hbb xr9)
      | fail)
    all_goals
      go_wp2_with fail
      obtain ⟨U3, hU3, hx3, hb3, _⟩ := put8 (N := w.heap.size) (X := w.heap.size + 1 + 1) (HKP.out.2.hb.trans (HE.out.1.mono HKP.out.2.hb.size)) (by omega) HE.out.2 (.int .i64 RR.k) (.int .i64 RR.y) (.int .i64 RR.m) (.int .i64 RR.d) (.int .i64 RR.s) (.int .i64 RR.n) (.bool RR.hz) (.int .i64 RR.z)
      rw [hU3]
      obtain ⟨⟨k0, k1, k2, k3, k4, k5, k6, k7⟩, _⟩ := blk8 hx3
      exact bodyPost_ret (v := moV RR) (by simp [results, Tryz.results93, go_sem, k0, k1, k2, k3, k4, k5, k6, k7]) rfl ⟨rfl, hb3⟩
end Go.Proofs.YtgaegajcejpmdaaGreatDoor.Dt
namespace Go.Proofs.YtgaegajcejpmdaaGreatDoor.Dt
open Go.RowKit
set_option linter.unusedVariables false

theorem order_r (a x b y : Int) (w : World) : Calls Tryz.prog 94 #[.int .i64 a, .int .i64 x, .int .i64 b, .int .i64 y] w fun e w' => e = .returned (.int .i64 (ordS a x b y)) ∧ w' = w := by
  unfold ordS
  by_cases h1 : a < b
  · rw [if_pos (.inl h1)]
    go_enter Tryz.func94, Tryz.ntmps94
    go_wp2_with fail
    go_ret
    exact ⟨rfl, rfl⟩
  · by_cases h2 : a = b
    · subst h2
      by_cases h3 : x < y
      · rw [if_pos (.inr ⟨rfl, h3⟩)]
        go_enter Tryz.func94, Tryz.ntmps94
        go_wp2_with fail
        go_ret
        exact ⟨rfl, rfl⟩
      · rw [if_neg (by omega)]
        by_cases h4 : x = y
        · subst h4
          rw [if_pos ⟨rfl, rfl⟩]
          go_enter Tryz.func94, Tryz.ntmps94
          go_wp2_with fail
          go_ret
          exact ⟨rfl, rfl⟩
        · rw [if_neg (fun q => h4 q.2)]
          go_enter Tryz.func94, Tryz.ntmps94
          go_wp2_with fail
          go_ret
          exact ⟨rfl, rfl⟩
    · rw [if_neg (by omega), if_neg (fun q => h2 q.1)]
      go_enter Tryz.func94, Tryz.ntmps94
      go_wp2_with fail
      go_ret
      exact ⟨rfl, rfl⟩
theorem days_bd' {y m d : Int} (y0 : -10000000000 < y) (y1 : y < 10000000000) (m0 : -10000000000 < m) (m1 : m < 10000000000) (d0 : -10000000000 < d) (d1 : d < 10000000000) : -50000000000000 < daysS y m d ∧ daysS y m d < 50000000000000 := by
  unfold daysS dayN
  have hl : -20000000000 < lnY y + (m - 1) / 12 ∧ lnY y + (m - 1) / 12 < 20000000000 := by unfold lnY; split <;> omega
  generalize lnY y + (m - 1) / 12 = l at *
  rw [Nat.add_sub_cancel]
  have := cum_nonneg l ((m - 1) % 12).toNat
  have := cum_le l (show ((m - 1) % 12).toNat ≤ 12 by omega)
  have ha : -20000000000000 < ahd l ∧ ahd l < 20000000000000 := by unfold ahd; omega
  have hb : ahd 2000 = 730485 := by decide
  omega
set_option maxHeartbeats 400000 in
theorem seconds_r (a : Mo) (z : Int) (w : World) (ha : MoB a) (z0 : -1000000 < z) (z1 : z < 1000000) : Calls Tryz.prog 95 #[moV a, .int .i64 z] w fun e w' => e = .returned (.int .i64 (linS a z)) ∧ Below w.heap.size w w' := by
  obtain ⟨k, y, m, d, s, n, hz, zz⟩ := a
  obtain ⟨y0, y1, m0, m1, d0, d1, s0, s1, n0, n1⟩ := ha
  dsimp only at *
  have q1 := fun W : World => days_r y m d W (by omega) (by omega) (by omega) (by omega) (by omega) (by omega)
  have hb := days_bd' y0 y1 m0 m1 d0 d1
  unfold linS
  dsimp only
  have HC : Hid _ := And.intro q1 trivial
  clear q1
  generalize daysS y m d = D at *
  obtain ⟨hb0, hb1⟩ := hb
  go_enter Tryz.func95, Tryz.ntmps95
  go_wp2_with fail
  go_quiet ((go_at_call 84; exact Calls.quiet_of_same (HC.out.1 _)))
  go_wp2_with fail
  go_ret
  exact ⟨rfl, bdrewN ((Below.refl _ _).alloc (Nat.le_refl _) _) _⟩
set_option maxHeartbeats 2000000 in
theorem cmp_r1 (a b : Mo) (w : World) (ha : MoL a) (hb : MoL b) (hcase : a.k ≠ b.k ∨ a.hz = b.hz ∨ a.hz = true) : Calls Tryz.prog 53 #[moV a, moV b] w fun e w' => e = .returned (.int .i64 (cmpM a b)) ∧ Below w.heap.size w w' := by
  obtain ⟨x1, x2, hb0⟩ := box2 w (.cells (moC a) 44) (.cells (moC b) 44)
  have q0 := fun W : World => seconds_r a a.z W ha.b ha.z0 ha.z1
  have q1 := fun W : World => seconds_r b b.z W hb.b hb.z0 hb.z1
  have q2 := fun W : World => order_r (linS a a.z) a.n (linS b b.z) b.n W
  have q3 := fun W : World => seconds_r b 840 W hb.b (by omega) (by omega)
  have q4 := fun W : World => order_r (linS a a.z) a.n (linS b 840) b.n W
  have q5 := fun W : World => seconds_r b (-840) W hb.b (by omega) (by omega)
  have q6 := fun W : World => order_r (linS a a.z) a.n (linS b (-840)) b.n W
  have hF : a.k = b.k → a.hz = b.hz → cmpM a b = ordS (linS a a.z) a.n (linS b b.z) b.n := cmp_eq
  have hG : ¬ a.k = b.k → cmpM a b = 2 := fun h => by unfold cmpM; rw [if_pos h]
  have hE : a.k = b.k → a.hz = true → b.hz = false → cmpM a b = if ordS (linS a a.z) a.n (linS b 840) b.n = ordS (linS a a.z) a.n (linS b (-840)) b.n ∧ ordS (linS a a.z) a.n (linS b 840) b.n ≠ 0 then ordS (linS a a.z) a.n (linS b 840) b.n else 2 := fun h1 h2 h3 => cmp_mix h1 h2 h3
  generalize ordS (linS a a.z) a.n (linS b b.z) b.n = R0 at *
  generalize ordS (linS a a.z) a.n (linS b 840) b.n = R1 at *
  generalize ordS (linS a a.z) a.n (linS b (-840)) b.n = R2 at *
  generalize linS a a.z = LA at *
  generalize linS b b.z = LB at *
  generalize linS b 840 = LC at *
  generalize linS b (-840) = LD at *
  have HC : Hid _ := And.intro q0 (And.intro q1 (And.intro q2 (And.intro q3 (And.intro q4 (And.intro q5 (And.intro q6 hb0))))))
  clear q0 q1 q2 q3 q4 q5 q6 hb0 ha hb
  generalize cmpM a b = R at *
  have HE : Hid _ := And.intro hE (And.intro hF hG)
  clear hE hF hG
  generalize hU : ((w.alloc (.cells (moC a) 44)).alloc (.cells (moC b) 44)) = U at *
  have hkp : ∀ W, Below U.heap.size U W → (W.cell? ⟨w.heap.size, 0, none⟩ = some (.int .i64 a.k) ∧ W.cell? ⟨w.heap.size, 1, none⟩ = some (.int .i64 a.y) ∧ W.cell? ⟨w.heap.size, 2, none⟩ = some (.int .i64 a.m) ∧ W.cell? ⟨w.heap.size, 3, none⟩ = some (.int .i64 a.d) ∧ W.cell? ⟨w.heap.size, 4, none⟩ = some (.int .i64 a.s) ∧ W.cell? ⟨w.heap.size, 5, none⟩ = some (.int .i64 a.n) ∧ W.cell? ⟨w.heap.size, 6, none⟩ = some (.bool a.hz) ∧ W.cell? ⟨w.heap.size, 7, none⟩ = some (.int .i64 a.z) ∧ W.cell? ⟨w.heap.size + 1, 0, none⟩ = some (.int .i64 b.k) ∧ W.cell? ⟨w.heap.size + 1, 1, none⟩ = some (.int .i64 b.y) ∧ W.cell? ⟨w.heap.size + 1, 2, none⟩ = some (.int .i64 b.m) ∧ W.cell? ⟨w.heap.size + 1, 3, none⟩ = some (.int .i64 b.d) ∧ W.cell? ⟨w.heap.size + 1, 4, none⟩ = some (.int .i64 b.s) ∧ W.cell? ⟨w.heap.size + 1, 5, none⟩ = some (.int .i64 b.n) ∧ W.cell? ⟨w.heap.size + 1, 6, none⟩ = some (.bool b.hz) ∧ W.cell? ⟨w.heap.size + 1, 7, none⟩ = some (.int .i64 b.z)) := fun W hW => by
    obtain ⟨⟨g0, g1, g2, g3, g4, g5, g6, g7⟩, _⟩ := blk8 ((hW.block _ (lt_of x1)).trans x1)
    obtain ⟨⟨h0, h1, h2, h3, h4, h5, h6, h7⟩, _⟩ := blk8 ((hW.block _ (lt_of x2)).trans x2)
    exact ⟨g0, g1, g2, g3, g4, g5, g6, g7, h0, h1, h2, h3, h4, h5, h6, h7⟩
  have HKP : Hid _ := hkp
  clear hkp x1 x2
  have HU : Hid _ := hU
  clear hU
  by_cases hk : a.k = b.k
  · have hkk : (a.k == b.k) = true := by simpa using hk
    have hkn : (a.k != b.k) = false := by simpa using hk
    by_cases hz : a.hz = b.hz
    · obtain rfl := HE.out.2.1 hk hz
      have hzz : (a.hz == b.hz) = true := by simpa using hz
      clear hk hz HE hcase
      go_enter Tryz.func53, Tryz.ntmps53
      go_wp2_with fail
      have hU := HU.out
      rw [hU]
      clear hU
      obtain ⟨g0, g1, g2, g3, g4, g5, g6, g7, h0, h1, h2, h3, h4, h5, h6, h7⟩ := HKP.out U.drew (below_drewN 1)
      have HB : Hid (Below U.heap.size U U.drew) := below_drewN 1
      go_region_held3 (fun W => W.cell? ⟨w.heap.size, 0, none⟩ = some (.int .i64 a.k) ∧ W.cell? ⟨w.heap.size, 1, none⟩ = some (.int .i64 a.y) ∧ W.cell? ⟨w.heap.size, 2, none⟩ = some (.int .i64 a.m) ∧ W.cell? ⟨w.heap.size, 3, none⟩ = some (.int .i64 a.d) ∧ W.cell? ⟨w.heap.size, 4, none⟩ = some (.int .i64 a.s) ∧ W.cell? ⟨w.heap.size, 5, none⟩ = some (.int .i64 a.n) ∧ W.cell? ⟨w.heap.size, 6, none⟩ = some (.bool a.hz) ∧ W.cell? ⟨w.heap.size, 7, none⟩ = some (.int .i64 a.z) ∧ W.cell? ⟨w.heap.size + 1, 0, none⟩ = some (.int .i64 b.k) ∧ W.cell? ⟨w.heap.size + 1, 1, none⟩ = some (.int .i64 b.y) ∧ W.cell? ⟨w.heap.size + 1, 2, none⟩ = some (.int .i64 b.m) ∧ W.cell? ⟨w.heap.size + 1, 3, none⟩ = some (.int .i64 b.d) ∧ W.cell? ⟨w.heap.size + 1, 4, none⟩ = some (.int .i64 b.s) ∧ W.cell? ⟨w.heap.size + 1, 5, none⟩ = some (.int .i64 b.n) ∧ W.cell? ⟨w.heap.size + 1, 6, none⟩ = some (.bool b.hz) ∧ W.cell? ⟨w.heap.size + 1, 7, none⟩ = some (.int .i64 b.z)) (first | exact ⟨g0, g1, g2, g3, g4, g5, g6, g7, h0, h1, h2, h3, h4, h5, h6, h7⟩ | fail) (first
        | (go_at_call 95; (with_reducible refine Calls.mono (HC.out.1 _) ?_); rintro e w1 ⟨rfl, hb1⟩; have hbb := HB.out.trans (hb1.mono HB.out.size); clear HB g0 g1 g2 g3 g4 g5 g6 g7 h0 h1 h2 h3 h4 h5 h6 h7; obtain ⟨g0, g1, g2, g3, g4, g5, g6, g7, h0, h1, h2, h3, h4, h5, h6, h7⟩ := HKP.out _ hbb; have HB : Hid _ := hbb; clear hbb hb1)
        | (go_at_call 95; (with_reducible refine Calls.mono (HC.out.2.1 _) ?_); rintro e w1 ⟨rfl, hb1⟩; have hbb := HB.out.trans (hb1.mono HB.out.size); clear HB g0 g1 g2 g3 g4 g5 g6 g7 h0 h1 h2 h3 h4 h5 h6 h7; obtain ⟨g0, g1, g2, g3, g4, g5, g6, g7, h0, h1, h2, h3, h4, h5, h6, h7⟩ := HKP.out _ hbb; have HB : Hid _ := hbb; clear hbb hb1)
        | (go_at_call 94; (with_reducible refine Calls.mono (HC.out.2.2.1 _) ?_); rintro e w3 ⟨rfl, hw3⟩; subst hw3)
        | fail)
      go_wp2_with fail
      go_ret
      exact ⟨rfl, HC.out.2.2.2.2.2.2.2.trans (HB.out.mono HC.out.2.2.2.2.2.2.2.size)⟩
    · have haz : a.hz = true := by
        rcases hcase with q | q | q
        · exact absurd hk q
        · exact absurd q hz
        · exact q
      have hbz : b.hz = false := by
        cases hq : b.hz
        · rfl
        · rw [haz, hq] at hz; exact absurd rfl hz
      have HR : Hid _ := HE.out.1 hk haz hbz
      clear hk hz HE hcase
      obtain ⟨ak, ay, am, ad, as_, an, ah, az⟩ := a
      obtain ⟨bk, byy, bm, bd, bs, bn, bh, bz⟩ := b
      dsimp only at *
      subst haz hbz
      go_enter Tryz.func53, Tryz.ntmps53
      go_wp2_with fail
      have hU := HU.out
      rw [hU]
      clear hU
      obtain ⟨g0, g1, g2, g3, g4, g5, g6, g7, h0, h1, h2, h3, h4, h5, h6, h7⟩ := HKP.out U.drew (below_drewN 1)
      have HB : Hid (Below U.heap.size U U.drew) := below_drewN 1
      go_region_held3 (fun W => W.cell? ⟨w.heap.size, 0, none⟩ = some (.int .i64 ak) ∧ W.cell? ⟨w.heap.size, 1, none⟩ = some (.int .i64 ay) ∧ W.cell? ⟨w.heap.size, 2, none⟩ = some (.int .i64 am) ∧ W.cell? ⟨w.heap.size, 3, none⟩ = some (.int .i64 ad) ∧ W.cell? ⟨w.heap.size, 4, none⟩ = some (.int .i64 as_) ∧ W.cell? ⟨w.heap.size, 5, none⟩ = some (.int .i64 an) ∧ W.cell? ⟨w.heap.size, 6, none⟩ = some (.bool true) ∧ W.cell? ⟨w.heap.size, 7, none⟩ = some (.int .i64 az) ∧ W.cell? ⟨w.heap.size + 1, 0, none⟩ = some (.int .i64 bk) ∧ W.cell? ⟨w.heap.size + 1, 1, none⟩ = some (.int .i64 byy) ∧ W.cell? ⟨w.heap.size + 1, 2, none⟩ = some (.int .i64 bm) ∧ W.cell? ⟨w.heap.size + 1, 3, none⟩ = some (.int .i64 bd) ∧ W.cell? ⟨w.heap.size + 1, 4, none⟩ = some (.int .i64 bs) ∧ W.cell? ⟨w.heap.size + 1, 5, none⟩ = some (.int .i64 bn) ∧ W.cell? ⟨w.heap.size + 1, 6, none⟩ = some (.bool false) ∧ W.cell? ⟨w.heap.size + 1, 7, none⟩ = some (.int .i64 bz)) (first | exact ⟨g0, g1, g2, g3, g4, g5, g6, g7, h0, h1, h2, h3, h4, h5, h6, h7⟩ | fail) (first
        | (go_at_call 95; (with_reducible refine Calls.mono (HC.out.1 _) ?_); rintro e w1 ⟨rfl, hb1⟩; have hbb := HB.out.trans (hb1.mono HB.out.size); clear HB g0 g1 g2 g3 g4 g5 g6 g7 h0 h1 h2 h3 h4 h5 h6 h7; obtain ⟨g0, g1, g2, g3, g4, g5, g6, g7, h0, h1, h2, h3, h4, h5, h6, h7⟩ := HKP.out _ hbb; have HB : Hid _ := hbb; clear hbb hb1)
        | (go_at_call 95; (with_reducible refine Calls.mono (HC.out.2.2.2.1 _) ?_); rintro e w1 ⟨rfl, hb1⟩; have hbb := HB.out.trans (hb1.mono HB.out.size); clear HB g0 g1 g2 g3 g4 g5 g6 g7 h0 h1 h2 h3 h4 h5 h6 h7; obtain ⟨g0, g1, g2, g3, g4, g5, g6, g7, h0, h1, h2, h3, h4, h5, h6, h7⟩ := HKP.out _ hbb; have HB : Hid _ := hbb; clear hbb hb1)
        | (go_at_call 94; (with_reducible refine Calls.mono (HC.out.2.2.2.2.1 _) ?_); rintro e w3 ⟨rfl, hw3⟩; subst hw3)
        | fail)
      go_wp2_with fail
      have HB2 : Hid (Below U.heap.size U w3.drew) := bdrewN HB.out 1
      clear HB g0 g1 g2 g3 g4 g5 g6 g7 h0 h1 h2 h3 h4 h5 h6 h7
      obtain ⟨g0, g1, g2, g3, g4, g5, g6, g7, h0, h1, h2, h3, h4, h5, h6, h7⟩ := HKP.out w3.drew HB2.out
      have HB : Hid _ := HB2.out
      go_region_held3 (fun W => W.cell? ⟨w.heap.size, 0, none⟩ = some (.int .i64 ak) ∧ W.cell? ⟨w.heap.size, 1, none⟩ = some (.int .i64 ay) ∧ W.cell? ⟨w.heap.size, 2, none⟩ = some (.int .i64 am) ∧ W.cell? ⟨w.heap.size, 3, none⟩ = some (.int .i64 ad) ∧ W.cell? ⟨w.heap.size, 4, none⟩ = some (.int .i64 as_) ∧ W.cell? ⟨w.heap.size, 5, none⟩ = some (.int .i64 an) ∧ W.cell? ⟨w.heap.size, 6, none⟩ = some (.bool true) ∧ W.cell? ⟨w.heap.size, 7, none⟩ = some (.int .i64 az) ∧ W.cell? ⟨w.heap.size + 1, 0, none⟩ = some (.int .i64 bk) ∧ W.cell? ⟨w.heap.size + 1, 1, none⟩ = some (.int .i64 byy) ∧ W.cell? ⟨w.heap.size + 1, 2, none⟩ = some (.int .i64 bm) ∧ W.cell? ⟨w.heap.size + 1, 3, none⟩ = some (.int .i64 bd) ∧ W.cell? ⟨w.heap.size + 1, 4, none⟩ = some (.int .i64 bs) ∧ W.cell? ⟨w.heap.size + 1, 5, none⟩ = some (.int .i64 bn) ∧ W.cell? ⟨w.heap.size + 1, 6, none⟩ = some (.bool false) ∧ W.cell? ⟨w.heap.size + 1, 7, none⟩ = some (.int .i64 bz)) (first | exact ⟨g0, g1, g2, g3, g4, g5, g6, g7, h0, h1, h2, h3, h4, h5, h6, h7⟩ | fail) (first
        | (go_at_call 95; (with_reducible refine Calls.mono (HC.out.1 _) ?_); rintro e w1 ⟨rfl, hb1⟩; have hbb := HB.out.trans (hb1.mono HB.out.size); clear HB g0 g1 g2 g3 g4 g5 g6 g7 h0 h1 h2 h3 h4 h5 h6 h7; obtain ⟨g0, g1, g2, g3, g4, g5, g6, g7, h0, h1, h2, h3, h4, h5, h6, h7⟩ := HKP.out _ hbb; have HB : Hid _ := hbb; clear hbb hb1)
        | (go_at_call 95; (with_reducible refine Calls.mono (HC.out.2.2.2.2.2.1 _) ?_); rintro e w1 ⟨rfl, hb1⟩; have hbb := HB.out.trans (hb1.mono HB.out.size); clear HB g0 g1 g2 g3 g4 g5 g6 g7 h0 h1 h2 h3 h4 h5 h6 h7; obtain ⟨g0, g1, g2, g3, g4, g5, g6, g7, h0, h1, h2, h3, h4, h5, h6, h7⟩ := HKP.out _ hbb; have HB : Hid _ := hbb; clear hbb hb1)
        | (go_at_call 94; (with_reducible refine Calls.mono (HC.out.2.2.2.2.2.2.1 _) ?_); rintro e w3 ⟨rfl, hw3⟩; subst hw3)
        | fail)
      by_cases hq : R1 = R2
      · have hqb : (R1 == R2) = true := by simpa using hq
        by_cases hq0 : R1 = 0
        · have hq0b : (R1 != 0) = false := by simpa using hq0
          have hR : R = 2 := by rw [HR.out, if_neg (fun q => q.2 hq0)]
          clear hq hq0
          go_wp2_with fail
          go_ret
          exact ⟨ret_int hR.symm, HC.out.2.2.2.2.2.2.2.trans (HB.out.mono HC.out.2.2.2.2.2.2.2.size)⟩
        · have hq0b : (R1 != 0) = true := by simpa using hq0
          have hR : R = R1 := by rw [HR.out, if_pos ⟨hq, hq0⟩]
          have HRR : Hid _ := hR
          clear hq hq0 hR
          go_wp2_with fail
          go_ret
          exact ⟨ret_int HRR.out.symm, HC.out.2.2.2.2.2.2.2.trans (HB.out.mono HC.out.2.2.2.2.2.2.2.size)⟩
      · have hqb : (R1 == R2) = false := by simpa using hq
        have hR : R = 2 := by rw [HR.out, if_neg (fun q => hq q.1)]
        clear hq
        go_wp2_with fail
        go_ret
        exact ⟨ret_int hR.symm, HC.out.2.2.2.2.2.2.2.trans (HB.out.mono HC.out.2.2.2.2.2.2.2.size)⟩
  · obtain rfl := HE.out.2.2 hk
    have hkk : (a.k == b.k) = false := by simpa using hk
    have hkn : (a.k != b.k) = true := by simpa using hk
    clear hk HE hcase
    go_enter Tryz.func53, Tryz.ntmps53
    go_wp2_with fail
    go_ret
    refine ⟨rfl, ?_⟩
    rw [HU.out]
    exact HC.out.2.2.2.2.2.2.2
set_option maxHeartbeats 1000000 in
theorem cmp_r (a b : Mo) (w : World) (ha : MoL a) (hb : MoL b) : Calls Tryz.prog 53 #[moV a, moV b] w fun e w' => e = .returned (.int .i64 (cmpM a b)) ∧ Below w.heap.size w w' := by
  by_cases hcase : a.k ≠ b.k ∨ a.hz = b.hz ∨ a.hz = true
  · exact cmp_r1 a b w ha hb hcase
  · have hk : a.k = b.k := Classical.byContradiction fun q => hcase (.inl q)
    have hz : a.hz ≠ b.hz := fun q => hcase (.inr (.inl q))
    have haz : a.hz = false := by
      cases q : a.hz
      · rfl
      · exact absurd (.inr (.inr q)) hcase
    have hbz : b.hz = true := by
      cases q : b.hz
      · rw [haz, q] at hz; exact absurd rfl hz
      · rfl
    have q1 := fun W : World => cmp_r1 b a W hb ha (.inr (.inr hbz))
    have hturn := cmp_turn b a
    have hin := cmp_in b a
    obtain ⟨x1, x2, hb0⟩ := box2 w (.cells (moC a) 44) (.cells (moC b) 44)
    generalize cmpM b a = R1 at *
    generalize cmpM a b = R at *
    have HC : Hid _ := And.intro q1 (And.intro hturn hb0)
    have hkk : (a.k == b.k) = true := by simpa using hk
    have hkn : (a.k != b.k) = false := by simpa using hk
    clear hcase hk hz q1 hturn ha hb x1 x2 hb0
    obtain ⟨ak, ay, am, ad, as_, an, ah, az⟩ := a
    obtain ⟨bk, byy, bm, bd, bs, bn, bh, bz⟩ := b
    dsimp only at *
    subst haz hbz
    have hR1 : -1 ≤ R1 ∧ R1 ≤ 2 := by omega
    obtain ⟨hR10, hR11⟩ := hR1
    clear hin
    by_cases h2 : R1 = 2
    · have hR : R = 2 := by rw [HC.out.2.1, if_pos h2]
      have h2b : (R1 == 2) = true := by simpa using h2
      have HR : Hid _ := hR
      clear h2 hR
      go_enter Tryz.func53, Tryz.ntmps53
      go_wp2_with fail
      refine Calls.mono (HC.out.1 _) ?_
      rintro e w1 ⟨rfl, hb1⟩
      have HB : Hid _ := HC.out.2.2.trans (hb1.mono HC.out.2.2.size)
      clear hb1
      go_wp2_with fail
      go_ret
      exact ⟨ret_int HR.out.symm, HB.out⟩
    · have hR : R = -R1 := by rw [HC.out.2.1, if_neg h2]
      have h2b : (R1 == 2) = false := by simpa using h2
      have HR : Hid _ := hR
      clear h2 hR
      go_enter Tryz.func53, Tryz.ntmps53
      go_wp2_with fail
      refine Calls.mono (HC.out.1 _) ?_
      rintro e w1 ⟨rfl, hb1⟩
      have HB : Hid _ := HC.out.2.2.trans (hb1.mono HC.out.2.2.size)
      clear hb1
      go_wp2_with fail
      go_ret
      exact ⟨ret_int HR.out.symm, HB.out⟩
end Go.Proofs.YtgaegajcejpmdaaGreatDoor.Dt
namespace Go.Proofs.YtgaegajcejpmdaaGreatDoor.Dt
open Go.RowKit
set_option linter.unusedVariables false

structure CB (w U : World) (a b : Sp) : Prop where
  x1 : U.heap[w.heap.size]? = some (.cells (spC a) 45 (0, 0))
  x2 : U.heap[w.heap.size + 1]? = some (.cells (spC b) 45 (0, 0))
  x3 : U.heap[w.heap.size + 1 + 1]? = some (.cells #[.int .i64 1696, .int .i64 1697, .int .i64 1903, .int .i64 1903] 3 (0, 0))
  x4 : U.heap[w.heap.size + 1 + 1 + 1]? = some (.cells #[.int .i64 9, .int .i64 2, .int .i64 3, .int .i64 7] 3 (0, 0))
  hb : Below w.heap.size w U
theorem CB.below {w U U' : World} {a b : Sp} (h : CB w U a b) (hb : Below U.heap.size U U') : CB w U' a b :=
  ⟨(hb.block _ (lt_of h.x1)).trans h.x1, (hb.block _ (lt_of h.x2)).trans h.x2, (hb.block _ (lt_of h.x3)).trans h.x3, (hb.block _ (lt_of h.x4)).trans h.x4, h.hb.trans (hb.mono h.hb.size)⟩
theorem blk4 {U : World} {X : Nat} {a b c d : Value} {t : TypeId} (hx : U.heap[X]? = some (.cells #[a, b, c, d] t (0, 0))) : U.cell? ⟨X, 0, none⟩ = some a ∧ U.cell? ⟨X, 1, none⟩ = some b ∧ U.cell? ⟨X, 2, none⟩ = some c ∧ U.cell? ⟨X, 3, none⟩ = some d := by
  refine ⟨?_, ?_, ?_, ?_⟩ <;> simp [World.cell?, hx]
theorem CB.init (w : World) (a b : Sp) : CB w ((((w.alloc (.cells (spC a) 45)).alloc (.cells (spC b) 45)).alloc (.cells #[.int .i64 1696, .int .i64 1697, .int .i64 1903, .int .i64 1903] 3)).alloc (.cells #[.int .i64 9, .int .i64 2, .int .i64 3, .int .i64 7] 3)) a b := by
  obtain ⟨x1, x2, x3, hb⟩ := box3 w (.cells (spC a) 45) (.cells (spC b) 45) (.cells #[.int .i64 1696, .int .i64 1697, .int .i64 1903, .int .i64 1903] 3)
  have hs : (((w.alloc (.cells (spC a) 45)).alloc (.cells (spC b) 45)).alloc (.cells #[.int .i64 1696, .int .i64 1697, .int .i64 1903, .int .i64 1903] 3)).heap.size = w.heap.size + 3 := by simp
  generalize (((w.alloc (.cells (spC a) 45)).alloc (.cells (spC b) 45)).alloc (.cells #[.int .i64 1696, .int .i64 1697, .int .i64 1903, .int .i64 1903] 3)) = V at *
  have hn := nw_heap V (.cells #[.int .i64 9, .int .i64 2, .int .i64 3, .int .i64 7] 3)
  have hv : Below V.heap.size V (V.alloc (.cells #[.int .i64 9, .int .i64 2, .int .i64 3, .int .i64 7] 3)) := (Below.refl _ _).alloc (Nat.le_refl _) _
  rw [hs] at hn
  exact ⟨(hv.block _ (lt_of x1)).trans x1, (hv.block _ (lt_of x2)).trans x2, (hv.block _ (lt_of x3)).trans x3, hn, hb.trans (hv.mono hb.size)⟩
set_option maxHeartbeats 4000000 in
theorem cmpSpan_r (a b : Sp) (w : World) (ha : SpT a) (hb : SpT b) : Calls Tryz.prog 52 #[spV a, spV b] w fun e w' => e = .returned (.int .i64 (cmpP a b)) ∧ Below w.heap.size w w' := by
  have hr0 := ref_ok (y := 1696) (m := 9) (by omega) (by omega) (by omega)
  have p0 := fun W : World => add_r (refM 1696 9) a W (hr0.b (by simp only [refM]; omega) (by simp only [refM]; omega)) ha.b
  have q0 := fun W : World => add_r (refM 1696 9) b W (hr0.b (by simp only [refM]; omega) (by simp only [refM]; omega)) hb.b
  have r0 := fun W : World => cmp_r (addM (refM 1696 9) a) (addM (refM 1696 9) b) W (add_L hr0 (by simp only [refM]; omega) (by simp only [refM]; omega) (by simp [refM]) (by simp [refM]) ha) (add_L hr0 (by simp only [refM]; omega) (by simp only [refM]; omega) (by simp [refM]) (by simp [refM]) hb)
  have e0 : moV (refM 1696 9) = .agg #[.int .i64 1, .int .i64 1696, .int .i64 9, .int .i64 1, .int .i64 0, .int .i64 0, .bool false, .int .i64 0] := rfl
  rw [e0] at p0 q0
  clear e0
  have hr1 := ref_ok (y := 1697) (m := 2) (by omega) (by omega) (by omega)
  have p1 := fun W : World => add_r (refM 1697 2) a W (hr1.b (by simp only [refM]; omega) (by simp only [refM]; omega)) ha.b
  have q1 := fun W : World => add_r (refM 1697 2) b W (hr1.b (by simp only [refM]; omega) (by simp only [refM]; omega)) hb.b
  have r1 := fun W : World => cmp_r (addM (refM 1697 2) a) (addM (refM 1697 2) b) W (add_L hr1 (by simp only [refM]; omega) (by simp only [refM]; omega) (by simp [refM]) (by simp [refM]) ha) (add_L hr1 (by simp only [refM]; omega) (by simp only [refM]; omega) (by simp [refM]) (by simp [refM]) hb)
  have e1 : moV (refM 1697 2) = .agg #[.int .i64 1, .int .i64 1697, .int .i64 2, .int .i64 1, .int .i64 0, .int .i64 0, .bool false, .int .i64 0] := rfl
  rw [e1] at p1 q1
  clear e1
  have hr2 := ref_ok (y := 1903) (m := 3) (by omega) (by omega) (by omega)
  have p2 := fun W : World => add_r (refM 1903 3) a W (hr2.b (by simp only [refM]; omega) (by simp only [refM]; omega)) ha.b
  have q2 := fun W : World => add_r (refM 1903 3) b W (hr2.b (by simp only [refM]; omega) (by simp only [refM]; omega)) hb.b
  have r2 := fun W : World => cmp_r (addM (refM 1903 3) a) (addM (refM 1903 3) b) W (add_L hr2 (by simp only [refM]; omega) (by simp only [refM]; omega) (by simp [refM]) (by simp [refM]) ha) (add_L hr2 (by simp only [refM]; omega) (by simp only [refM]; omega) (by simp [refM]) (by simp [refM]) hb)
  have e2 : moV (refM 1903 3) = .agg #[.int .i64 1, .int .i64 1903, .int .i64 3, .int .i64 1, .int .i64 0, .int .i64 0, .bool false, .int .i64 0] := rfl
  rw [e2] at p2 q2
  clear e2
  have hr3 := ref_ok (y := 1903) (m := 7) (by omega) (by omega) (by omega)
  have p3 := fun W : World => add_r (refM 1903 7) a W (hr3.b (by simp only [refM]; omega) (by simp only [refM]; omega)) ha.b
  have q3 := fun W : World => add_r (refM 1903 7) b W (hr3.b (by simp only [refM]; omega) (by simp only [refM]; omega)) hb.b
  have r3 := fun W : World => cmp_r (addM (refM 1903 7) a) (addM (refM 1903 7) b) W (add_L hr3 (by simp only [refM]; omega) (by simp only [refM]; omega) (by simp [refM]) (by simp [refM]) ha) (add_L hr3 (by simp only [refM]; omega) (by simp only [refM]; omega) (by simp [refM]) (by simp [refM]) hb)
  have e3 : moV (refM 1903 7) = .agg #[.int .i64 1, .int .i64 1903, .int .i64 7, .int .i64 1, .int .i64 0, .int .i64 0, .bool false, .int .i64 0] := rfl
  rw [e3] at p3 q3
  clear e3
  have hE : cmpP a b = if cmpM (addM (refM 1696 9) a) (addM (refM 1696 9) b) = cmpM (addM (refM 1903 7) a) (addM (refM 1903 7) b) ∧ cmpM (addM (refM 1697 2) a) (addM (refM 1697 2) b) = cmpM (addM (refM 1903 7) a) (addM (refM 1903 7) b) ∧ cmpM (addM (refM 1903 3) a) (addM (refM 1903 3) b) = cmpM (addM (refM 1903 7) a) (addM (refM 1903 7) b) then cmpM (addM (refM 1903 7) a) (addM (refM 1903 7) b) else 2 := rfl
  rw [hE]
  clear hE
  generalize cmpM (addM (refM 1696 9) a) (addM (refM 1696 9) b) = R0 at *
  generalize addM (refM 1696 9) a = A0 at *
  generalize addM (refM 1696 9) b = B0 at *
  generalize cmpM (addM (refM 1697 2) a) (addM (refM 1697 2) b) = R1 at *
  generalize addM (refM 1697 2) a = A1 at *
  generalize addM (refM 1697 2) b = B1 at *
  generalize cmpM (addM (refM 1903 3) a) (addM (refM 1903 3) b) = R2 at *
  generalize addM (refM 1903 3) a = A2 at *
  generalize addM (refM 1903 3) b = B2 at *
  generalize cmpM (addM (refM 1903 7) a) (addM (refM 1903 7) b) = R3 at *
  generalize addM (refM 1903 7) a = A3 at *
  generalize addM (refM 1903 7) b = B3 at *
  obtain ⟨R, hR⟩ : ∃ R, (if R0 = R3 ∧ R1 = R3 ∧ R2 = R3 then R3 else 2) = R := ⟨_, rfl⟩
  rw [hR]
  have HR : Hid _ := hR
  have HC : Hid _ := And.intro (And.intro p0 (And.intro q0 r0)) (And.intro (And.intro p1 (And.intro q1 r1)) (And.intro (And.intro p2 (And.intro q2 r2)) (And.intro p3 (And.intro q3 r3))))
  clear hR p0 q0 r0 p1 q1 r1 p2 q2 r2 p3 q3 r3 hr0 hr1 hr2 hr3 ha hb
  have HI : Hid _ := CB.init w a b
  go_enter Tryz.func52, Tryz.ntmps52
  go_wp2_with fail
  go_loopg [7, 8] 4 (fun g v7 v8 wr => ∃ (i : Nat) (c : Int), i + g = 4 ∧ v8 = .int .i64 (i : Int) ∧ v7 = .int .i64 c ∧ (1 ≤ i → c = R0) ∧ (2 ≤ i → R1 = R0) ∧ (3 ≤ i → R2 = R0) ∧ (4 ≤ i → R3 = R0) ∧ CB w wr a b)
  case atStart => exact ⟨0, 0, rfl, rfl, rfl, fun h => absurd h (by omega), fun h => absurd h (by omega), fun h => absurd h (by omega), fun h => absurd h (by omega), HI.out⟩
  case round =>
    obtain ⟨i, c, hig, rfl, rfl, s1, s2, s3, s4, HA⟩ := hrel
    obtain rfl | rfl | rfl | rfl | rfl : i = 0 ∨ i = 1 ∨ i = 2 ∨ i = 3 ∨ i = 4 := by omega
    · obtain rfl : gk = 4 := by omega
      have HCR : Hid _ := HA
      have hal : Below wr.heap.size wr (wr.alloc (.cells #[.int .i64 0, .int .i64 0, .int .i64 0, .int .i64 0, .int .i64 0, .int .i64 0, .bool false, .int .i64 0] 44)) := (Below.refl _ _).alloc (Nat.le_refl _) _
      obtain ⟨y0, y1, y2, y3⟩ := blk4 HA.x3
      obtain ⟨m0, m1, m2, m3⟩ := blk4 HA.x4
      obtain ⟨yy0, yy1, yy2, yy3⟩ := blk4 ((hal.block _ (lt_of HA.x3)).trans HA.x3)
      obtain ⟨mm0, mm1, mm2, mm3⟩ := blk4 ((hal.block _ (lt_of HA.x4)).trans HA.x4)
      clear HA hal
      go_upto_region 7 with fail
      go_region
      obtain ⟨U, hU⟩ : ∃ V, (wr.alloc (.cells #[.int .i64 1, .int .i64 1696, .int .i64 9, .int .i64 1, .int .i64 0, .int .i64 0, .bool false, .int .i64 0] 44)).drew = V := ⟨_, rfl⟩
      rw [hU]
      have x9 : U.heap[wr.heap.size]? = some (.cells #[.int .i64 1, .int .i64 1696, .int .i64 9, .int .i64 1, .int .i64 0, .int .i64 0, .bool false, .int .i64 0] 44 (0, 0)) := by rw [← hU]; exact nw_heap _ _
      have hbU : Below wr.heap.size wr U := by rw [← hU]; exact bdrewN ((Below.refl _ _).alloc (Nat.le_refl _) _) 1
      have HCU : CB w U a b := HCR.out.below hbU
      clear hU y0 y1 y2 y3 m0 m1 m2 m3 yy0 yy1 yy2 yy3 mm0 mm1 mm2 mm3
      have hkp : ∀ W, Below U.heap.size U W → (W.cell? ⟨wr.heap.size, 0, none⟩ = some (.int .i64 1) ∧ W.cell? ⟨wr.heap.size, 1, none⟩ = some (.int .i64 1696) ∧ W.cell? ⟨wr.heap.size, 2, none⟩ = some (.int .i64 9) ∧ W.cell? ⟨wr.heap.size, 3, none⟩ = some (.int .i64 1) ∧ W.cell? ⟨wr.heap.size, 4, none⟩ = some (.int .i64 0) ∧ W.cell? ⟨wr.heap.size, 5, none⟩ = some (.int .i64 0) ∧ W.cell? ⟨wr.heap.size, 6, none⟩ = some (.bool false) ∧ W.cell? ⟨wr.heap.size, 7, none⟩ = some (.int .i64 0) ∧ W.cell? ⟨w.heap.size, 0, none⟩ = some (.int .i64 a.o) ∧ W.cell? ⟨w.heap.size, 1, none⟩ = some (.int .i64 a.s) ∧ W.cell? ⟨w.heap.size, 2, none⟩ = some (.int .i64 a.n) ∧ W.cell? ⟨w.heap.size + 1, 0, none⟩ = some (.int .i64 b.o) ∧ W.cell? ⟨w.heap.size + 1, 1, none⟩ = some (.int .i64 b.s) ∧ W.cell? ⟨w.heap.size + 1, 2, none⟩ = some (.int .i64 b.n)) := fun W hW => by
        obtain ⟨⟨g0, g1, g2, g3, g4, g5, g6, g7⟩, _⟩ := blk8 ((hW.block _ (lt_of x9)).trans x9)
        obtain ⟨h0, h1, h2⟩ := blk3 (HCU.below hW).x1
        obtain ⟨j0, j1, j2⟩ := blk3 (HCU.below hW).x2
        exact ⟨g0, g1, g2, g3, g4, g5, g6, g7, h0, h1, h2, j0, j1, j2⟩
      obtain ⟨g0, g1, g2, g3, g4, g5, g6, g7, h0, h1, h2, j0, j1, j2⟩ := hkp U.drew (below_drewN 1)
      have HB : Hid (Below U.heap.size U U.drew) := below_drewN 1
      have HKP : Hid _ := hkp
      have HCB : Hid _ := HCU
      clear hkp x9 HCU hbU
      go_wp2_with fail
      go_region_held3 (fun W => W.cell? ⟨wr.heap.size, 0, none⟩ = some (.int .i64 1) ∧ W.cell? ⟨wr.heap.size, 1, none⟩ = some (.int .i64 1696) ∧ W.cell? ⟨wr.heap.size, 2, none⟩ = some (.int .i64 9) ∧ W.cell? ⟨wr.heap.size, 3, none⟩ = some (.int .i64 1) ∧ W.cell? ⟨wr.heap.size, 4, none⟩ = some (.int .i64 0) ∧ W.cell? ⟨wr.heap.size, 5, none⟩ = some (.int .i64 0) ∧ W.cell? ⟨wr.heap.size, 6, none⟩ = some (.bool false) ∧ W.cell? ⟨wr.heap.size, 7, none⟩ = some (.int .i64 0) ∧ W.cell? ⟨w.heap.size, 0, none⟩ = some (.int .i64 a.o) ∧ W.cell? ⟨w.heap.size, 1, none⟩ = some (.int .i64 a.s) ∧ W.cell? ⟨w.heap.size, 2, none⟩ = some (.int .i64 a.n) ∧ W.cell? ⟨w.heap.size + 1, 0, none⟩ = some (.int .i64 b.o) ∧ W.cell? ⟨w.heap.size + 1, 1, none⟩ = some (.int .i64 b.s) ∧ W.cell? ⟨w.heap.size + 1, 2, none⟩ = some (.int .i64 b.n)) (first | exact ⟨g0, g1, g2, g3, g4, g5, g6, g7, h0, h1, h2, j0, j1, j2⟩ | fail) (first
        | (go_at_call 93; (with_reducible refine Calls.mono (HC.out.1.1 _) ?_); rintro e w1 ⟨rfl, hb1⟩; have hbb := HB.out.trans (hb1.mono HB.out.size); clear HB g0 g1 g2 g3 g4 g5 g6 g7 h0 h1 h2 j0 j1 j2; obtain ⟨g0, g1, g2, g3, g4, g5, g6, g7, h0, h1, h2, j0, j1, j2⟩ := HKP.out _ hbb; have HB : Hid _ := hbb; clear hbb hb1)
        | (go_at_call 93; (with_reducible refine Calls.mono (HC.out.1.2.1 _) ?_); rintro e w1 ⟨rfl, hb1⟩; have hbb := HB.out.trans (hb1.mono HB.out.size); clear HB g0 g1 g2 g3 g4 g5 g6 g7 h0 h1 h2 j0 j1 j2; obtain ⟨g0, g1, g2, g3, g4, g5, g6, g7, h0, h1, h2, j0, j1, j2⟩ := HKP.out _ hbb; have HB : Hid _ := hbb; clear hbb hb1)
        | (go_at_call 53; (with_reducible refine Calls.mono (HC.out.1.2.2 _) ?_); rintro e w1 ⟨rfl, hb1⟩; have hbb := HB.out.trans (hb1.mono HB.out.size); clear HB g0 g1 g2 g3 g4 g5 g6 g7 h0 h1 h2 j0 j1 j2; obtain ⟨g0, g1, g2, g3, g4, g5, g6, g7, h0, h1, h2, j0, j1, j2⟩ := HKP.out _ hbb; have HB : Hid _ := hbb; clear hbb hb1)
        | fail)
      all_goals
        go_wp2_with fail
        go_roundg 3
        case measure => omega
        case rel => exact ⟨1, R0, rfl, rfl, rfl, fun _ => rfl, fun h => absurd h (by omega), fun h => absurd h (by omega), fun h => absurd h (by omega), HCB.out.below HB.out⟩
    · obtain rfl : gk = 3 := by omega
      have HCR : Hid _ := HA
      have HS1 : Hid _ := And.intro s1 (And.intro s2 (And.intro s3 s4))
      clear s1 s2 s3 s4
      have hal : Below wr.heap.size wr (wr.alloc (.cells #[.int .i64 0, .int .i64 0, .int .i64 0, .int .i64 0, .int .i64 0, .int .i64 0, .bool false, .int .i64 0] 44)) := (Below.refl _ _).alloc (Nat.le_refl _) _
      obtain ⟨y0, y1, y2, y3⟩ := blk4 HA.x3
      obtain ⟨m0, m1, m2, m3⟩ := blk4 HA.x4
      obtain ⟨yy0, yy1, yy2, yy3⟩ := blk4 ((hal.block _ (lt_of HA.x3)).trans HA.x3)
      obtain ⟨mm0, mm1, mm2, mm3⟩ := blk4 ((hal.block _ (lt_of HA.x4)).trans HA.x4)
      clear HA hal
      go_upto_region 7 with fail
      go_region
      obtain ⟨U, hU⟩ : ∃ V, (wr.alloc (.cells #[.int .i64 1, .int .i64 1697, .int .i64 2, .int .i64 1, .int .i64 0, .int .i64 0, .bool false, .int .i64 0] 44)).drew = V := ⟨_, rfl⟩
      rw [hU]
      have x9 : U.heap[wr.heap.size]? = some (.cells #[.int .i64 1, .int .i64 1697, .int .i64 2, .int .i64 1, .int .i64 0, .int .i64 0, .bool false, .int .i64 0] 44 (0, 0)) := by rw [← hU]; exact nw_heap _ _
      have hbU : Below wr.heap.size wr U := by rw [← hU]; exact bdrewN ((Below.refl _ _).alloc (Nat.le_refl _) _) 1
      have HCU : CB w U a b := HCR.out.below hbU
      clear hU y0 y1 y2 y3 m0 m1 m2 m3 yy0 yy1 yy2 yy3 mm0 mm1 mm2 mm3
      have hkp : ∀ W, Below U.heap.size U W → (W.cell? ⟨wr.heap.size, 0, none⟩ = some (.int .i64 1) ∧ W.cell? ⟨wr.heap.size, 1, none⟩ = some (.int .i64 1697) ∧ W.cell? ⟨wr.heap.size, 2, none⟩ = some (.int .i64 2) ∧ W.cell? ⟨wr.heap.size, 3, none⟩ = some (.int .i64 1) ∧ W.cell? ⟨wr.heap.size, 4, none⟩ = some (.int .i64 0) ∧ W.cell? ⟨wr.heap.size, 5, none⟩ = some (.int .i64 0) ∧ W.cell? ⟨wr.heap.size, 6, none⟩ = some (.bool false) ∧ W.cell? ⟨wr.heap.size, 7, none⟩ = some (.int .i64 0) ∧ W.cell? ⟨w.heap.size, 0, none⟩ = some (.int .i64 a.o) ∧ W.cell? ⟨w.heap.size, 1, none⟩ = some (.int .i64 a.s) ∧ W.cell? ⟨w.heap.size, 2, none⟩ = some (.int .i64 a.n) ∧ W.cell? ⟨w.heap.size + 1, 0, none⟩ = some (.int .i64 b.o) ∧ W.cell? ⟨w.heap.size + 1, 1, none⟩ = some (.int .i64 b.s) ∧ W.cell? ⟨w.heap.size + 1, 2, none⟩ = some (.int .i64 b.n)) := fun W hW => by
        obtain ⟨⟨g0, g1, g2, g3, g4, g5, g6, g7⟩, _⟩ := blk8 ((hW.block _ (lt_of x9)).trans x9)
        obtain ⟨h0, h1, h2⟩ := blk3 (HCU.below hW).x1
        obtain ⟨j0, j1, j2⟩ := blk3 (HCU.below hW).x2
        exact ⟨g0, g1, g2, g3, g4, g5, g6, g7, h0, h1, h2, j0, j1, j2⟩
      obtain ⟨g0, g1, g2, g3, g4, g5, g6, g7, h0, h1, h2, j0, j1, j2⟩ := hkp U.drew (below_drewN 1)
      have HB : Hid (Below U.heap.size U U.drew) := below_drewN 1
      have HKP : Hid _ := hkp
      have HCB : Hid _ := HCU
      clear hkp x9 HCU hbU
      go_wp2_with fail
      go_region_held3 (fun W => W.cell? ⟨wr.heap.size, 0, none⟩ = some (.int .i64 1) ∧ W.cell? ⟨wr.heap.size, 1, none⟩ = some (.int .i64 1697) ∧ W.cell? ⟨wr.heap.size, 2, none⟩ = some (.int .i64 2) ∧ W.cell? ⟨wr.heap.size, 3, none⟩ = some (.int .i64 1) ∧ W.cell? ⟨wr.heap.size, 4, none⟩ = some (.int .i64 0) ∧ W.cell? ⟨wr.heap.size, 5, none⟩ = some (.int .i64 0) ∧ W.cell? ⟨wr.heap.size, 6, none⟩ = some (.bool false) ∧ W.cell? ⟨wr.heap.size, 7, none⟩ = some (.int .i64 0) ∧ W.cell? ⟨w.heap.size, 0, none⟩ = some (.int .i64 a.o) ∧ W.cell? ⟨w.heap.size, 1, none⟩ = some (.int .i64 a.s) ∧ W.cell? ⟨w.heap.size, 2, none⟩ = some (.int .i64 a.n) ∧ W.cell? ⟨w.heap.size + 1, 0, none⟩ = some (.int .i64 b.o) ∧ W.cell? ⟨w.heap.size + 1, 1, none⟩ = some (.int .i64 b.s) ∧ W.cell? ⟨w.heap.size + 1, 2, none⟩ = some (.int .i64 b.n)) (first | exact ⟨g0, g1, g2, g3, g4, g5, g6, g7, h0, h1, h2, j0, j1, j2⟩ | fail) (first
        | (go_at_call 93; (with_reducible refine Calls.mono (HC.out.2.1.1 _) ?_); rintro e w1 ⟨rfl, hb1⟩; have hbb := HB.out.trans (hb1.mono HB.out.size); clear HB g0 g1 g2 g3 g4 g5 g6 g7 h0 h1 h2 j0 j1 j2; obtain ⟨g0, g1, g2, g3, g4, g5, g6, g7, h0, h1, h2, j0, j1, j2⟩ := HKP.out _ hbb; have HB : Hid _ := hbb; clear hbb hb1)
        | (go_at_call 93; (with_reducible refine Calls.mono (HC.out.2.1.2.1 _) ?_); rintro e w1 ⟨rfl, hb1⟩; have hbb := HB.out.trans (hb1.mono HB.out.size); clear HB g0 g1 g2 g3 g4 g5 g6 g7 h0 h1 h2 j0 j1 j2; obtain ⟨g0, g1, g2, g3, g4, g5, g6, g7, h0, h1, h2, j0, j1, j2⟩ := HKP.out _ hbb; have HB : Hid _ := hbb; clear hbb hb1)
        | (go_at_call 53; (with_reducible refine Calls.mono (HC.out.2.1.2.2 _) ?_); rintro e w1 ⟨rfl, hb1⟩; have hbb := HB.out.trans (hb1.mono HB.out.size); clear HB g0 g1 g2 g3 g4 g5 g6 g7 h0 h1 h2 j0 j1 j2; obtain ⟨g0, g1, g2, g3, g4, g5, g6, g7, h0, h1, h2, j0, j1, j2⟩ := HKP.out _ hbb; have HB : Hid _ := hbb; clear hbb hb1)
        | fail)
      all_goals
        by_cases hq : R1 = c
        · have k1 : (R1 != c) = false := by simpa using hq
          have HQ : Hid _ := hq
          clear hq
          go_wp2_with fail
          go_roundg 2
          case measure => omega
          case rel =>
            have hq := HQ.out
            exact ⟨2, R1, rfl, rfl, rfl, fun _ => hq.trans (HS1.out.1 (by omega)), fun _ => hq.trans (HS1.out.1 (by omega)), fun h => absurd h (by omega), fun h => absurd h (by omega), HCB.out.below HB.out⟩
        · have k1 : (R1 != c) = true := by simpa using hq
          have hR2 : R = 2 := by
            have hc := HS1.out.1 (by omega)
            rw [← HR.out, if_neg (by rintro ⟨e1, e2, e3⟩; omega)]
          have HQ : Hid _ := hR2
          clear hq hR2
          go_wp2_with fail
          go_ret
          exact ⟨ret_int HQ.out.symm, (HCB.out.below HB.out).hb⟩
    · obtain rfl : gk = 2 := by omega
      have HCR : Hid _ := HA
      have HS1 : Hid _ := And.intro s1 (And.intro s2 (And.intro s3 s4))
      clear s1 s2 s3 s4
      have hal : Below wr.heap.size wr (wr.alloc (.cells #[.int .i64 0, .int .i64 0, .int .i64 0, .int .i64 0, .int .i64 0, .int .i64 0, .bool false, .int .i64 0] 44)) := (Below.refl _ _).alloc (Nat.le_refl _) _
      obtain ⟨y0, y1, y2, y3⟩ := blk4 HA.x3
      obtain ⟨m0, m1, m2, m3⟩ := blk4 HA.x4
      obtain ⟨yy0, yy1, yy2, yy3⟩ := blk4 ((hal.block _ (lt_of HA.x3)).trans HA.x3)
      obtain ⟨mm0, mm1, mm2, mm3⟩ := blk4 ((hal.block _ (lt_of HA.x4)).trans HA.x4)
      clear HA hal
      go_upto_region 7 with fail
      go_region
      obtain ⟨U, hU⟩ : ∃ V, (wr.alloc (.cells #[.int .i64 1, .int .i64 1903, .int .i64 3, .int .i64 1, .int .i64 0, .int .i64 0, .bool false, .int .i64 0] 44)).drew = V := ⟨_, rfl⟩
      rw [hU]
      have x9 : U.heap[wr.heap.size]? = some (.cells #[.int .i64 1, .int .i64 1903, .int .i64 3, .int .i64 1, .int .i64 0, .int .i64 0, .bool false, .int .i64 0] 44 (0, 0)) := by rw [← hU]; exact nw_heap _ _
      have hbU : Below wr.heap.size wr U := by rw [← hU]; exact bdrewN ((Below.refl _ _).alloc (Nat.le_refl _) _) 1
      have HCU : CB w U a b := HCR.out.below hbU
      clear hU y0 y1 y2 y3 m0 m1 m2 m3 yy0 yy1 yy2 yy3 mm0 mm1 mm2 mm3
      have hkp : ∀ W, Below U.heap.size U W → (W.cell? ⟨wr.heap.size, 0, none⟩ = some (.int .i64 1) ∧ W.cell? ⟨wr.heap.size, 1, none⟩ = some (.int .i64 1903) ∧ W.cell? ⟨wr.heap.size, 2, none⟩ = some (.int .i64 3) ∧ W.cell? ⟨wr.heap.size, 3, none⟩ = some (.int .i64 1) ∧ W.cell? ⟨wr.heap.size, 4, none⟩ = some (.int .i64 0) ∧ W.cell? ⟨wr.heap.size, 5, none⟩ = some (.int .i64 0) ∧ W.cell? ⟨wr.heap.size, 6, none⟩ = some (.bool false) ∧ W.cell? ⟨wr.heap.size, 7, none⟩ = some (.int .i64 0) ∧ W.cell? ⟨w.heap.size, 0, none⟩ = some (.int .i64 a.o) ∧ W.cell? ⟨w.heap.size, 1, none⟩ = some (.int .i64 a.s) ∧ W.cell? ⟨w.heap.size, 2, none⟩ = some (.int .i64 a.n) ∧ W.cell? ⟨w.heap.size + 1, 0, none⟩ = some (.int .i64 b.o) ∧ W.cell? ⟨w.heap.size + 1, 1, none⟩ = some (.int .i64 b.s) ∧ W.cell? ⟨w.heap.size + 1, 2, none⟩ = some (.int .i64 b.n)) := fun W hW => by
        obtain ⟨⟨g0, g1, g2, g3, g4, g5, g6, g7⟩, _⟩ := blk8 ((hW.block _ (lt_of x9)).trans x9)
        obtain ⟨h0, h1, h2⟩ := blk3 (HCU.below hW).x1
        obtain ⟨j0, j1, j2⟩ := blk3 (HCU.below hW).x2
        exact ⟨g0, g1, g2, g3, g4, g5, g6, g7, h0, h1, h2, j0, j1, j2⟩
      obtain ⟨g0, g1, g2, g3, g4, g5, g6, g7, h0, h1, h2, j0, j1, j2⟩ := hkp U.drew (below_drewN 1)
      have HB : Hid (Below U.heap.size U U.drew) := below_drewN 1
      have HKP : Hid _ := hkp
      have HCB : Hid _ := HCU
      clear hkp x9 HCU hbU
      go_wp2_with fail
      go_region_held3 (fun W => W.cell? ⟨wr.heap.size, 0, none⟩ = some (.int .i64 1) ∧ W.cell? ⟨wr.heap.size, 1, none⟩ = some (.int .i64 1903) ∧ W.cell? ⟨wr.heap.size, 2, none⟩ = some (.int .i64 3) ∧ W.cell? ⟨wr.heap.size, 3, none⟩ = some (.int .i64 1) ∧ W.cell? ⟨wr.heap.size, 4, none⟩ = some (.int .i64 0) ∧ W.cell? ⟨wr.heap.size, 5, none⟩ = some (.int .i64 0) ∧ W.cell? ⟨wr.heap.size, 6, none⟩ = some (.bool false) ∧ W.cell? ⟨wr.heap.size, 7, none⟩ = some (.int .i64 0) ∧ W.cell? ⟨w.heap.size, 0, none⟩ = some (.int .i64 a.o) ∧ W.cell? ⟨w.heap.size, 1, none⟩ = some (.int .i64 a.s) ∧ W.cell? ⟨w.heap.size, 2, none⟩ = some (.int .i64 a.n) ∧ W.cell? ⟨w.heap.size + 1, 0, none⟩ = some (.int .i64 b.o) ∧ W.cell? ⟨w.heap.size + 1, 1, none⟩ = some (.int .i64 b.s) ∧ W.cell? ⟨w.heap.size + 1, 2, none⟩ = some (.int .i64 b.n)) (first | exact ⟨g0, g1, g2, g3, g4, g5, g6, g7, h0, h1, h2, j0, j1, j2⟩ | fail) (first
        | (go_at_call 93; (with_reducible refine Calls.mono (HC.out.2.2.1.1 _) ?_); rintro e w1 ⟨rfl, hb1⟩; have hbb := HB.out.trans (hb1.mono HB.out.size); clear HB g0 g1 g2 g3 g4 g5 g6 g7 h0 h1 h2 j0 j1 j2; obtain ⟨g0, g1, g2, g3, g4, g5, g6, g7, h0, h1, h2, j0, j1, j2⟩ := HKP.out _ hbb; have HB : Hid _ := hbb; clear hbb hb1)
        | (go_at_call 93; (with_reducible refine Calls.mono (HC.out.2.2.1.2.1 _) ?_); rintro e w1 ⟨rfl, hb1⟩; have hbb := HB.out.trans (hb1.mono HB.out.size); clear HB g0 g1 g2 g3 g4 g5 g6 g7 h0 h1 h2 j0 j1 j2; obtain ⟨g0, g1, g2, g3, g4, g5, g6, g7, h0, h1, h2, j0, j1, j2⟩ := HKP.out _ hbb; have HB : Hid _ := hbb; clear hbb hb1)
        | (go_at_call 53; (with_reducible refine Calls.mono (HC.out.2.2.1.2.2 _) ?_); rintro e w1 ⟨rfl, hb1⟩; have hbb := HB.out.trans (hb1.mono HB.out.size); clear HB g0 g1 g2 g3 g4 g5 g6 g7 h0 h1 h2 j0 j1 j2; obtain ⟨g0, g1, g2, g3, g4, g5, g6, g7, h0, h1, h2, j0, j1, j2⟩ := HKP.out _ hbb; have HB : Hid _ := hbb; clear hbb hb1)
        | fail)
      all_goals
        by_cases hq : R2 = c
        · have k1 : (R2 != c) = false := by simpa using hq
          have HQ : Hid _ := hq
          clear hq
          go_wp2_with fail
          go_roundg 1
          case measure => omega
          case rel =>
            have hq := HQ.out
            exact ⟨3, R2, rfl, rfl, rfl, fun _ => hq.trans (HS1.out.1 (by omega)), fun _ => HS1.out.2.1 (by omega), fun _ => hq.trans (HS1.out.1 (by omega)), fun h => absurd h (by omega), HCB.out.below HB.out⟩
        · have k1 : (R2 != c) = true := by simpa using hq
          have hR2 : R = 2 := by
            have hc := HS1.out.1 (by omega)
            rw [← HR.out, if_neg (by rintro ⟨e1, e2, e3⟩; omega)]
          have HQ : Hid _ := hR2
          clear hq hR2
          go_wp2_with fail
          go_ret
          exact ⟨ret_int HQ.out.symm, (HCB.out.below HB.out).hb⟩
    · obtain rfl : gk = 1 := by omega
      have HCR : Hid _ := HA
      have HS1 : Hid _ := And.intro s1 (And.intro s2 (And.intro s3 s4))
      clear s1 s2 s3 s4
      have hal : Below wr.heap.size wr (wr.alloc (.cells #[.int .i64 0, .int .i64 0, .int .i64 0, .int .i64 0, .int .i64 0, .int .i64 0, .bool false, .int .i64 0] 44)) := (Below.refl _ _).alloc (Nat.le_refl _) _
      obtain ⟨y0, y1, y2, y3⟩ := blk4 HA.x3
      obtain ⟨m0, m1, m2, m3⟩ := blk4 HA.x4
      obtain ⟨yy0, yy1, yy2, yy3⟩ := blk4 ((hal.block _ (lt_of HA.x3)).trans HA.x3)
      obtain ⟨mm0, mm1, mm2, mm3⟩ := blk4 ((hal.block _ (lt_of HA.x4)).trans HA.x4)
      clear HA hal
      go_upto_region 7 with fail
      go_region
      obtain ⟨U, hU⟩ : ∃ V, (wr.alloc (.cells #[.int .i64 1, .int .i64 1903, .int .i64 7, .int .i64 1, .int .i64 0, .int .i64 0, .bool false, .int .i64 0] 44)).drew = V := ⟨_, rfl⟩
      rw [hU]
      have x9 : U.heap[wr.heap.size]? = some (.cells #[.int .i64 1, .int .i64 1903, .int .i64 7, .int .i64 1, .int .i64 0, .int .i64 0, .bool false, .int .i64 0] 44 (0, 0)) := by rw [← hU]; exact nw_heap _ _
      have hbU : Below wr.heap.size wr U := by rw [← hU]; exact bdrewN ((Below.refl _ _).alloc (Nat.le_refl _) _) 1
      have HCU : CB w U a b := HCR.out.below hbU
      clear hU y0 y1 y2 y3 m0 m1 m2 m3 yy0 yy1 yy2 yy3 mm0 mm1 mm2 mm3
      have hkp : ∀ W, Below U.heap.size U W → (W.cell? ⟨wr.heap.size, 0, none⟩ = some (.int .i64 1) ∧ W.cell? ⟨wr.heap.size, 1, none⟩ = some (.int .i64 1903) ∧ W.cell? ⟨wr.heap.size, 2, none⟩ = some (.int .i64 7) ∧ W.cell? ⟨wr.heap.size, 3, none⟩ = some (.int .i64 1) ∧ W.cell? ⟨wr.heap.size, 4, none⟩ = some (.int .i64 0) ∧ W.cell? ⟨wr.heap.size, 5, none⟩ = some (.int .i64 0) ∧ W.cell? ⟨wr.heap.size, 6, none⟩ = some (.bool false) ∧ W.cell? ⟨wr.heap.size, 7, none⟩ = some (.int .i64 0) ∧ W.cell? ⟨w.heap.size, 0, none⟩ = some (.int .i64 a.o) ∧ W.cell? ⟨w.heap.size, 1, none⟩ = some (.int .i64 a.s) ∧ W.cell? ⟨w.heap.size, 2, none⟩ = some (.int .i64 a.n) ∧ W.cell? ⟨w.heap.size + 1, 0, none⟩ = some (.int .i64 b.o) ∧ W.cell? ⟨w.heap.size + 1, 1, none⟩ = some (.int .i64 b.s) ∧ W.cell? ⟨w.heap.size + 1, 2, none⟩ = some (.int .i64 b.n)) := fun W hW => by
        obtain ⟨⟨g0, g1, g2, g3, g4, g5, g6, g7⟩, _⟩ := blk8 ((hW.block _ (lt_of x9)).trans x9)
        obtain ⟨h0, h1, h2⟩ := blk3 (HCU.below hW).x1
        obtain ⟨j0, j1, j2⟩ := blk3 (HCU.below hW).x2
        exact ⟨g0, g1, g2, g3, g4, g5, g6, g7, h0, h1, h2, j0, j1, j2⟩
      obtain ⟨g0, g1, g2, g3, g4, g5, g6, g7, h0, h1, h2, j0, j1, j2⟩ := hkp U.drew (below_drewN 1)
      have HB : Hid (Below U.heap.size U U.drew) := below_drewN 1
      have HKP : Hid _ := hkp
      have HCB : Hid _ := HCU
      clear hkp x9 HCU hbU
      go_wp2_with fail
      go_region_held3 (fun W => W.cell? ⟨wr.heap.size, 0, none⟩ = some (.int .i64 1) ∧ W.cell? ⟨wr.heap.size, 1, none⟩ = some (.int .i64 1903) ∧ W.cell? ⟨wr.heap.size, 2, none⟩ = some (.int .i64 7) ∧ W.cell? ⟨wr.heap.size, 3, none⟩ = some (.int .i64 1) ∧ W.cell? ⟨wr.heap.size, 4, none⟩ = some (.int .i64 0) ∧ W.cell? ⟨wr.heap.size, 5, none⟩ = some (.int .i64 0) ∧ W.cell? ⟨wr.heap.size, 6, none⟩ = some (.bool false) ∧ W.cell? ⟨wr.heap.size, 7, none⟩ = some (.int .i64 0) ∧ W.cell? ⟨w.heap.size, 0, none⟩ = some (.int .i64 a.o) ∧ W.cell? ⟨w.heap.size, 1, none⟩ = some (.int .i64 a.s) ∧ W.cell? ⟨w.heap.size, 2, none⟩ = some (.int .i64 a.n) ∧ W.cell? ⟨w.heap.size + 1, 0, none⟩ = some (.int .i64 b.o) ∧ W.cell? ⟨w.heap.size + 1, 1, none⟩ = some (.int .i64 b.s) ∧ W.cell? ⟨w.heap.size + 1, 2, none⟩ = some (.int .i64 b.n)) (first | exact ⟨g0, g1, g2, g3, g4, g5, g6, g7, h0, h1, h2, j0, j1, j2⟩ | fail) (first
        | (go_at_call 93; (with_reducible refine Calls.mono (HC.out.2.2.2.1 _) ?_); rintro e w1 ⟨rfl, hb1⟩; have hbb := HB.out.trans (hb1.mono HB.out.size); clear HB g0 g1 g2 g3 g4 g5 g6 g7 h0 h1 h2 j0 j1 j2; obtain ⟨g0, g1, g2, g3, g4, g5, g6, g7, h0, h1, h2, j0, j1, j2⟩ := HKP.out _ hbb; have HB : Hid _ := hbb; clear hbb hb1)
        | (go_at_call 93; (with_reducible refine Calls.mono (HC.out.2.2.2.2.1 _) ?_); rintro e w1 ⟨rfl, hb1⟩; have hbb := HB.out.trans (hb1.mono HB.out.size); clear HB g0 g1 g2 g3 g4 g5 g6 g7 h0 h1 h2 j0 j1 j2; obtain ⟨g0, g1, g2, g3, g4, g5, g6, g7, h0, h1, h2, j0, j1, j2⟩ := HKP.out _ hbb; have HB : Hid _ := hbb; clear hbb hb1)
        | (go_at_call 53; (with_reducible refine Calls.mono (HC.out.2.2.2.2.2 _) ?_); rintro e w1 ⟨rfl, hb1⟩; have hbb := HB.out.trans (hb1.mono HB.out.size); clear HB g0 g1 g2 g3 g4 g5 g6 g7 h0 h1 h2 j0 j1 j2; obtain ⟨g0, g1, g2, g3, g4, g5, g6, g7, h0, h1, h2, j0, j1, j2⟩ := HKP.out _ hbb; have HB : Hid _ := hbb; clear hbb hb1)
        | fail)
      all_goals
        by_cases hq : R3 = c
        · have k1 : (R3 != c) = false := by simpa using hq
          have HQ : Hid _ := hq
          clear hq
          go_wp2_with fail
          go_roundg 0
          case measure => omega
          case rel =>
            have hq := HQ.out
            exact ⟨4, R3, rfl, rfl, rfl, fun _ => hq.trans (HS1.out.1 (by omega)), fun _ => HS1.out.2.1 (by omega), fun _ => HS1.out.2.2.1 (by omega), fun _ => hq.trans (HS1.out.1 (by omega)), HCB.out.below HB.out⟩
        · have k1 : (R3 != c) = true := by simpa using hq
          have hR2 : R = 2 := by
            have hc := HS1.out.1 (by omega)
            rw [← HR.out, if_neg (by rintro ⟨e1, e2, e3⟩; omega)]
          have HQ : Hid _ := hR2
          clear hq hR2
          go_wp2_with fail
          go_ret
          exact ⟨ret_int HQ.out.symm, (HCB.out.below HB.out).hb⟩
    · have hc : c = R := by
        rw [s1 (by omega), ← HR.out, if_pos ⟨(s4 (by omega)).symm, (s2 (by omega)).trans (s4 (by omega)).symm, (s3 (by omega)).trans (s4 (by omega)).symm⟩]
        exact (s4 (by omega)).symm
      have HH : Hid _ := And.intro hc HA.hb
      clear s1 s2 s3 s4 hc HA
      go_wp2_with fail
      go_ret
      exact ⟨ret_int HH.out.1, HH.out.2⟩
end Go.Proofs.YtgaegajcejpmdaaGreatDoor.Dt
