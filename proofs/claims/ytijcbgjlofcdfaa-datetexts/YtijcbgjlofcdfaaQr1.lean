/- The second telling: put. -/
import Derived.Test.YtijcbgjlofcdfaaJ17
import Derived.Test.YtijcbgjlofcdfaaPd5
namespace Go.Proofs.Ytijcbgjlofcdfaa
open Go.RowKit
set_option linter.unusedVariables false

/-- A box and a result's place. -/
structure AB2 (w U : World) (c z : Array Value) (t v : TypeId) : Prop where
  x1 : U.heap[w.heap.size]? = some (.cells c t (0, 0))
  x2 : U.heap[w.heap.size + 1]? = some (.cells z v (0, 0))
  hb : Below w.heap.size w U
theorem AB2.init (w : World) (c z : Array Value) (t v : TypeId) : AB2 w ((w.alloc (.cells c t)).alloc (.cells z v)) c z t v := by
  obtain ⟨a, b, e⟩ := box2 w (.cells c t) (.cells z v)
  exact ⟨a, b, e⟩
theorem AB2.set {w U : World} {c z : Array Value} {t v : TypeId} (h : AB2 w U c z t v) (i : Nat) (x : Value) : AB2 w (U.setCell ⟨w.heap.size, i, none⟩ x) (c.setIfInBounds i x) z t v :=
  ⟨bset h.x1 x, (Below.heap_setCell _ _ _ _ (by simp)).trans h.x2, h.hb.setCell (p := ⟨w.heap.size, i, none⟩) (Nat.le_refl _) x⟩
theorem AB2.ex {w U : World} {c z : Array Value} {t v : TypeId} (h : AB2 w U c z t v) : ∃ U', U = U' ∧ AB2 w U' c z t v := ⟨U, rfl, h⟩
theorem found_yr {B r : Int} {j : Nat} (hr : r < ahd (B + 400) - ahd B) (hj : j ≤ 400) (h0 : 0 ≤ r - (ahd (B + j) - ahd B)) : j ≤ 399 := by
  by_cases c : j = 400
  · subst c
    have : (B + ((400 : Nat) : Int)) = B + 400 := rfl
    rw [this] at h0
    omega
  · omega
set_option maxHeartbeats 2000000 in
theorem put_r (a : Mo) (n : Int) (w : World) (h0 : -1000000000000000 < n) (h1 : n < 1000000000000000) : Calls Try.prog 34 #[moV a, .int .i64 n] w fun e w' => e = .returned (moV ⟨a.k, bkY (civL n), (civM n : Nat), civD n, a.s, a.n, a.hz, a.z⟩) ∧ Below w.heap.size w w' := by
  obtain ⟨ak, ay, am, ad, as_, an, ah, az⟩ := a
  dsimp only
  have c1 := fun W : World => div_r n 146097 W (by omega) (by omega) (by omega) (by omega)
  have c2 := fun W : World => mod_r n 146097 W (by omega) (by omega) (by omega) (by omega)
  have hr := emod_in n (show (0 : Int) < 146097 by omega)
  have hq : -10000000000 < n / 146097 ∧ n / 146097 < 10000000000 := by omega
  have hnr : n = 146097 * (n / 146097) + n % 146097 := by have := Int.emod_add_mul_ediv n 146097; omega
  generalize hR : n % 146097 = r at *
  generalize hQ : n / 146097 = q at *
  clear hR hQ
  obtain ⟨hr0, hr1⟩ := hr
  obtain ⟨hq0, hq1⟩ := hq
  have hb2 : ahd (2000 + 400 * q) = ahd 2000 + 146097 * q := by rw [ahd_cycle]
  have hb4 : r < ahd (2000 + 400 * q + 400) - ahd (2000 + 400 * q) := by
    have : 2000 + 400 * q + 400 = 2000 + 400 * (q + 1) := by omega
    rw [this, ahd_cycle, ahd_cycle]
    omega
  obtain ⟨B, hB⟩ : ∃ B, 2000 + 400 * q = B := ⟨_, rfl⟩
  have hBb : -5000000000000 < B ∧ B < 5000000000000 := by omega
  rw [hB] at hb2 hb4
  have HNR : Hid _ := And.intro hnr (And.intro hb2 hb4)
  have hB' : 2000 + 400 * q = B := hB
  have HBB : Hid _ := hB
  clear hnr hb2 hb4
  have c3 := fun (j : Nat) (W : World) (hj : j ≤ 400) => leap_r (B + j) W (by omega) (by omega)
  have HC : Hid _ := And.intro c1 (And.intro c2 c3)
  clear c1 c2 c3 hB
  obtain ⟨hBb0, hBb1⟩ := hBb
  have HS : Hid (∀ j : Nat, ahd (B + ((j + 1 : Nat) : Int)) = ahd (B + j) + yrL (B + j)) := (fun j => by rw [show B + ((j + 1 : Nat) : Int) = B + j + 1 by omega, ahd_succ] : ∀ j : Nat, ahd (B + ((j + 1 : Nat) : Int)) = ahd (B + j) + yrL (B + j))
  have HA0 := AB2.init w #[.int .i64 ak, .int .i64 ay, .int .i64 am, .int .i64 ad, .int .i64 as_, .int .i64 an, .bool ah, .int .i64 az] mo0 28 28
  obtain ⟨U, hU, HA⟩ := AB2.ex HA0
  have HU : Hid _ := And.intro hU HA
  clear hU HA HA0
  go_enter Try.func34, Try.ntmps34
  go_wp2_with (first | (go_at_call 51; with_reducible refine Calls.mono (HC.out.1 _) ?_; rintro e w' ⟨rfl, hw⟩; subst hw) | (go_at_call 53; with_reducible refine Calls.mono (HC.out.2.1 _) ?_; rintro e w' ⟨rfl, hw⟩; subst hw))
  go_loopg [5, 6] 400 (fun g v5 v6 wr => ∃ (j : Nat) (D : Int), j + g = 400 ∧ v5 = .int .i64 (B + (j : Int)) ∧ v6 = .int .i64 D ∧ D = r - (ahd (B + (j : Int)) - ahd B) ∧ 0 ≤ D ∧ D < 146097 ∧ AB2 w wr #[.int .i64 ak, .int .i64 ay, .int .i64 am, .int .i64 ad, .int .i64 as_, .int .i64 an, .bool ah, .int .i64 az] mo0 28 28)
  case atStart => exact ⟨0, r, rfl, by simp, rfl, by simp, hr0, hr1, by rw [HU.out.1]; exact HU.out.2⟩
  case round =>
    obtain ⟨j, D, hjg, rfl, rfl, hD, hD0, hD1, HA⟩ := hrel
    have hj : j ≤ 399 := found_yr HNR.out.2.2 (by omega) (by rw [← hD]; exact hD0)
    obtain ⟨g, rfl⟩ : ∃ g, gk = g + 1 := ⟨gk - 1, by omega⟩
    have c3 := fun W : World => HC.out.2.2 j W (by omega)
    have hs := HS.out j
    have hyr : yrL (B + (j : Int)) = if lpL (B + (j : Int)) = true then 366 else 365 := rfl
    obtain ⟨⟨g0, g1, g2, g3, g4, g5, g6, g7⟩, f0, f1, f2, f3, f4, f5, f6, f7⟩ := blk8 HA.x1
    generalize lpL (B + (j : Int)) = lp at *
    have HX : Hid _ := And.intro hD (And.intro hs (And.intro hyr HA))
    have HLP : Hid _ := c3
    clear hD hs hyr HA c3
    cases lp
    · by_cases hlt : D < 365
      · have d1 : decide (D < 365) = true := by simpa using hlt
        have hLb : -6000000000000 < B + (j : Int) ∧ B + (j : Int) < 6000000000000 := by omega
        have q1 := fun W : World => back_r (B + (j : Int)) W (by omega) (by omega)
        have hyl : D < yrL (B + (j : Int)) := by rw [HX.out.2.2.1]; simpa using hlt
        have hsum : ahd (B + (j : Int)) - ahd 2000 + D = n := by
          have a1 := HNR.out.1
          have a2 := HNR.out.2.1
          have a3 := HX.out.1
          omega
        have hbk : -10000000000000 < bkY (B + (j : Int)) ∧ bkY (B + (j : Int)) < 10000000000000 := by unfold bkY; split <;> omega
        have q2 := fun (m : Int) (W : World) (p : -1000000000000000 < m) (q : m < 1000000000000000) => length_r (bkY (B + (j : Int))) m W (by omega) (by omega) p q
        rw [ln_bk] at q2
        generalize B + (j : Int) = L at *
        have HT : Hid _ := And.intro q1 (And.intro q2 (And.intro hsum hyl))
        clear q1 q2 hsum hyl
        obtain ⟨hbk0, hbk1⟩ := hbk
        obtain ⟨hL0, hL1⟩ := hLb
        generalize hY : bkY L = Y at *
        have HY : Hid _ := hY
        clear hY
        go_wp2_with (first | (go_at_call 56; with_reducible refine Calls.mono (HLP.out _) ?_; rintro e w' ⟨rfl, hw⟩; subst hw) | (go_at_call 52; with_reducible refine Calls.mono (HT.out.1 _) ?_; rintro e w' ⟨rfl, hw⟩; subst hw))
        have HA2 := (HX.out.2.2.2.set 1 (.int .i64 Y)).set 2 (.int .i64 1)
        simp only [List.setIfInBounds_toArray, List.set_cons_zero, List.set_cons_succ] at HA2
        go_loopg [6] 11 (fun g v6 wx => ∃ (i : Nat) (E : Int), i + g = 11 ∧ v6 = .int .i64 E ∧ E = D - cum L i ∧ 0 ≤ E ∧ E < 400 ∧ AB2 w wx #[.int .i64 ak, .int .i64 Y, .int .i64 ((i : Int) + 1), .int .i64 ad, .int .i64 as_, .int .i64 an, .bool ah, .int .i64 az] mo0 28 28)
        case atStart => exact ⟨0, D, rfl, rfl, by simp [cum], hD0, by omega, HA2⟩
        case round =>
          obtain ⟨i, E, hig, rfl, hE, hE0, hE1, HA⟩ := hrel
          clear HA2
          obtain ⟨⟨g0, g1, g2, g3, g4, g5, g6, g7⟩, f0, f1, f2, f3, f4, f5, f6, f7⟩ := blk8 HA.x1
          obtain ⟨⟨r0', r1', r2', r3', r4', r5', r6', r7'⟩, t0', t1', t2', t3', t4', t5', t6', t7'⟩ := blk8 HA.x2
          have hlen := len_in (l := L) (m := (i : Int) + 1) (by omega) (by omega)
          have q3 := fun W : World => HT.out.2.1 ((i : Int) + 1) W (by omega) (by omega)
          have hcs : cum L (i + 1) = cum L i + lenL L ((i : Int) + 1) := rfl
          have hc12 := cum_twelve L
          obtain ⟨LN, hLN⟩ : ∃ LN, lenL L ((i : Int) + 1) = LN := ⟨_, rfl⟩
          rw [hLN] at hlen q3 hcs
          obtain ⟨hl0, hl1⟩ := hlen
          have HZ : Hid _ := And.intro hE (And.intro hcs (And.intro hc12 (And.intro HA (And.intro hLN q3))))
          clear hE hcs hc12 HA hLN q3
          have hi1 : (i : Int) ≤ 11 := by omega
          by_cases hge : LN ≤ E
          · have dd : decide (LN ≤ E) = true := by simpa using hge
            have dd2 : decide (E < LN) = false := by simp; omega
            have hi : i ≤ 10 := by
              rcases Nat.lt_or_ge i 11 with h | h
              · omega
              · have h11 : i = 11 := by omega
                have a1 := HZ.out.1
                have a2 := HZ.out.2.1
                have a3 := HZ.out.2.2.1
                have a4 := HT.out.2.2.2
                rw [h11] at a1 a2
                rw [a3] at a2
                omega
            obtain ⟨g', rfl⟩ : ∃ g', gk = g' + 1 := ⟨gk - 1, by omega⟩
            go_wp2_with (go_at_call 25; with_reducible refine Calls.mono (HZ.out.2.2.2.2.2 _) ?_; rintro e w' ⟨rfl, hw⟩; subst hw)
            go_roundg g'
            case measure => omega
            case rel =>
              have hx := HZ.out.2.2.2.1.set 2 (.int .i64 ((i : Int) + 1 + 1))
              simp only [List.setIfInBounds_toArray, List.set_cons_zero, List.set_cons_succ] at hx
              refine ⟨i + 1, E - LN, by omega, rfl, ?_, by omega, by omega, ?_⟩
              · have a1 := HZ.out.1
                have a2 := HZ.out.2.1
                omega
              · rw [show ((i + 1 : Nat) : Int) = (i : Int) + 1 by omega]
                exact hx
          · have dd : decide (LN ≤ E) = false := by simpa using hge
            have dd2 : decide (E < LN) = true := by simp; omega
            go_wp2_with (go_at_call 25; with_reducible refine Calls.mono (HZ.out.2.2.2.2.2 _) ?_; rintro e w' ⟨rfl, hw⟩; subst hw)
            have HA3 := HZ.out.2.2.2.1.set 3 (.int .i64 (E + 1))
            simp only [List.setIfInBounds_toArray, List.set_cons_zero, List.set_cons_succ] at HA3
            obtain ⟨U2, hU2, hx2, hb2, _⟩ := put8 (X := w.heap.size + 1) HA3.hb (by omega) HA3.x2 (.int .i64 ak) (.int .i64 Y) (.int .i64 ((i : Int) + 1)) (.int .i64 (E + 1)) (.int .i64 as_) (.int .i64 an) (.bool ah) (.int .i64 az)
            rw [hU2]
            obtain ⟨⟨k0, k1, k2, k3, k4, k5, k6, k7⟩, _⟩ := blk8 hx2
            obtain ⟨z1, z2, z3⟩ := found (n := n) (l := L) (r := D) (j := i) (by omega) HT.out.2.2.1 (by rw [← HZ.out.1]; exact hE0) (by rw [← HZ.out.1, HZ.out.2.2.2.2.1]; omega)
            refine bodyPost_ret (v := moV ⟨ak, Y, (i : Int) + 1, E + 1, as_, an, ah, az⟩) (by simp [results, Try.results34, go_sem, k0, k1, k2, k3, k4, k5, k6, k7]) rfl ⟨?_, hb2⟩
            rw [z1, z2, z3, HY.out, HZ.out.1]
      · have d1 : decide (D < 365) = false := by simpa using hlt
        go_wp2_with (go_at_call 56; with_reducible refine Calls.mono (HLP.out _) ?_; rintro e w' ⟨rfl, hw⟩; subst hw)
        go_roundg g
        case measure => omega
        case rel =>
          refine ⟨j + 1, D - 365, by omega, by simp [Int.add_assoc], rfl, ?_, by omega, by omega, HX.out.2.2.2⟩
          have a1 := HX.out.1
          have a2 := HX.out.2.1
          have a3 := HX.out.2.2.1
          simp at a3
          omega
    · by_cases hlt : D < 366
      · have d1 : decide (D < 366) = true := by simpa using hlt
        have hLb : -6000000000000 < B + (j : Int) ∧ B + (j : Int) < 6000000000000 := by omega
        have q1 := fun W : World => back_r (B + (j : Int)) W (by omega) (by omega)
        have hyl : D < yrL (B + (j : Int)) := by rw [HX.out.2.2.1]; simpa using hlt
        have hsum : ahd (B + (j : Int)) - ahd 2000 + D = n := by
          have a1 := HNR.out.1
          have a2 := HNR.out.2.1
          have a3 := HX.out.1
          omega
        have hbk : -10000000000000 < bkY (B + (j : Int)) ∧ bkY (B + (j : Int)) < 10000000000000 := by unfold bkY; split <;> omega
        have q2 := fun (m : Int) (W : World) (p : -1000000000000000 < m) (q : m < 1000000000000000) => length_r (bkY (B + (j : Int))) m W (by omega) (by omega) p q
        rw [ln_bk] at q2
        generalize B + (j : Int) = L at *
        have HT : Hid _ := And.intro q1 (And.intro q2 (And.intro hsum hyl))
        clear q1 q2 hsum hyl
        obtain ⟨hbk0, hbk1⟩ := hbk
        obtain ⟨hL0, hL1⟩ := hLb
        generalize hY : bkY L = Y at *
        have HY : Hid _ := hY
        clear hY
        go_wp2_with (first | (go_at_call 56; with_reducible refine Calls.mono (HLP.out _) ?_; rintro e w' ⟨rfl, hw⟩; subst hw) | (go_at_call 52; with_reducible refine Calls.mono (HT.out.1 _) ?_; rintro e w' ⟨rfl, hw⟩; subst hw))
        have HA2 := (HX.out.2.2.2.set 1 (.int .i64 Y)).set 2 (.int .i64 1)
        simp only [List.setIfInBounds_toArray, List.set_cons_zero, List.set_cons_succ] at HA2
        go_loopg [6] 11 (fun g v6 wx => ∃ (i : Nat) (E : Int), i + g = 11 ∧ v6 = .int .i64 E ∧ E = D - cum L i ∧ 0 ≤ E ∧ E < 400 ∧ AB2 w wx #[.int .i64 ak, .int .i64 Y, .int .i64 ((i : Int) + 1), .int .i64 ad, .int .i64 as_, .int .i64 an, .bool ah, .int .i64 az] mo0 28 28)
        case atStart => exact ⟨0, D, rfl, rfl, by simp [cum], hD0, by omega, HA2⟩
        case round =>
          obtain ⟨i, E, hig, rfl, hE, hE0, hE1, HA⟩ := hrel
          clear HA2
          obtain ⟨⟨g0, g1, g2, g3, g4, g5, g6, g7⟩, f0, f1, f2, f3, f4, f5, f6, f7⟩ := blk8 HA.x1
          obtain ⟨⟨r0', r1', r2', r3', r4', r5', r6', r7'⟩, t0', t1', t2', t3', t4', t5', t6', t7'⟩ := blk8 HA.x2
          have hlen := len_in (l := L) (m := (i : Int) + 1) (by omega) (by omega)
          have q3 := fun W : World => HT.out.2.1 ((i : Int) + 1) W (by omega) (by omega)
          have hcs : cum L (i + 1) = cum L i + lenL L ((i : Int) + 1) := rfl
          have hc12 := cum_twelve L
          obtain ⟨LN, hLN⟩ : ∃ LN, lenL L ((i : Int) + 1) = LN := ⟨_, rfl⟩
          rw [hLN] at hlen q3 hcs
          obtain ⟨hl0, hl1⟩ := hlen
          have HZ : Hid _ := And.intro hE (And.intro hcs (And.intro hc12 (And.intro HA (And.intro hLN q3))))
          clear hE hcs hc12 HA hLN q3
          have hi1 : (i : Int) ≤ 11 := by omega
          by_cases hge : LN ≤ E
          · have dd : decide (LN ≤ E) = true := by simpa using hge
            have dd2 : decide (E < LN) = false := by simp; omega
            have hi : i ≤ 10 := by
              rcases Nat.lt_or_ge i 11 with h | h
              · omega
              · have h11 : i = 11 := by omega
                have a1 := HZ.out.1
                have a2 := HZ.out.2.1
                have a3 := HZ.out.2.2.1
                have a4 := HT.out.2.2.2
                rw [h11] at a1 a2
                rw [a3] at a2
                omega
            obtain ⟨g', rfl⟩ : ∃ g', gk = g' + 1 := ⟨gk - 1, by omega⟩
            go_wp2_with (go_at_call 25; with_reducible refine Calls.mono (HZ.out.2.2.2.2.2 _) ?_; rintro e w' ⟨rfl, hw⟩; subst hw)
            go_roundg g'
            case measure => omega
            case rel =>
              have hx := HZ.out.2.2.2.1.set 2 (.int .i64 ((i : Int) + 1 + 1))
              simp only [List.setIfInBounds_toArray, List.set_cons_zero, List.set_cons_succ] at hx
              refine ⟨i + 1, E - LN, by omega, rfl, ?_, by omega, by omega, ?_⟩
              · have a1 := HZ.out.1
                have a2 := HZ.out.2.1
                omega
              · rw [show ((i + 1 : Nat) : Int) = (i : Int) + 1 by omega]
                exact hx
          · have dd : decide (LN ≤ E) = false := by simpa using hge
            have dd2 : decide (E < LN) = true := by simp; omega
            go_wp2_with (go_at_call 25; with_reducible refine Calls.mono (HZ.out.2.2.2.2.2 _) ?_; rintro e w' ⟨rfl, hw⟩; subst hw)
            have HA3 := HZ.out.2.2.2.1.set 3 (.int .i64 (E + 1))
            simp only [List.setIfInBounds_toArray, List.set_cons_zero, List.set_cons_succ] at HA3
            obtain ⟨U2, hU2, hx2, hb2, _⟩ := put8 (X := w.heap.size + 1) HA3.hb (by omega) HA3.x2 (.int .i64 ak) (.int .i64 Y) (.int .i64 ((i : Int) + 1)) (.int .i64 (E + 1)) (.int .i64 as_) (.int .i64 an) (.bool ah) (.int .i64 az)
            rw [hU2]
            obtain ⟨⟨k0, k1, k2, k3, k4, k5, k6, k7⟩, _⟩ := blk8 hx2
            obtain ⟨z1, z2, z3⟩ := found (n := n) (l := L) (r := D) (j := i) (by omega) HT.out.2.2.1 (by rw [← HZ.out.1]; exact hE0) (by rw [← HZ.out.1, HZ.out.2.2.2.2.1]; omega)
            refine bodyPost_ret (v := moV ⟨ak, Y, (i : Int) + 1, E + 1, as_, an, ah, az⟩) (by simp [results, Try.results34, go_sem, k0, k1, k2, k3, k4, k5, k6, k7]) rfl ⟨?_, hb2⟩
            rw [z1, z2, z3, HY.out, HZ.out.1]
      · have d1 : decide (D < 366) = false := by simpa using hlt
        go_wp2_with (go_at_call 56; with_reducible refine Calls.mono (HLP.out _) ?_; rintro e w' ⟨rfl, hw⟩; subst hw)
        go_roundg g
        case measure => omega
        case rel =>
          refine ⟨j + 1, D - 366, by omega, by simp [Int.add_assoc], rfl, ?_, by omega, by omega, HX.out.2.2.2⟩
          have a1 := HX.out.1
          have a2 := HX.out.2.1
          have a3 := HX.out.2.2.1
          simp at a3
          omega
end Go.Proofs.Ytijcbgjlofcdfaa
