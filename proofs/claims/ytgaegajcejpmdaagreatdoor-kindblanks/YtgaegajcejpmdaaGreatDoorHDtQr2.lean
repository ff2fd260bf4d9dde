/- The second telling: seconds, order, Cmp. -/
import Derived.Test.YtgaegajcejpmdaaGreatDoorHJ37
import Derived.Test.YtgaegajcejpmdaaGreatDoorHJ27
namespace Go.Proofs.YtgaegajcejpmdaaGreatDoor.Dt
open Go.RowKit
set_option linter.unusedVariables false

theorem order_r (a x b y : Int) (w : World) : Calls Tryz.prog 94 #[.int .i64 a, .int .i64 x, .int .i64 b, .int .i64 y] w fun e w' => e = .returned (.int .i64 (ordS a x b y)) ∧ w' = w := by
  unfold ordS
  by_cases h1 : a < b
  · rw [if_pos (.inl h1)]
    go_enter Tryz.func94, Tryz.ntmps94
    go_wp2_with fail
    go_ret
    exact ⟨rfl, rfl⟩
  · by_cases h2 : a = b
    · subst h2
      by_cases h3 : x < y
      · rw [if_pos (.inr ⟨rfl, h3⟩)]
        go_enter Tryz.func94, Tryz.ntmps94
        go_wp2_with fail
        go_ret
        exact ⟨rfl, rfl⟩
      · rw [if_neg (by omega)]
        by_cases h4 : x = y
        · subst h4
          rw [if_pos ⟨rfl, rfl⟩]
          go_enter Tryz.func94, Tryz.ntmps94
          go_wp2_with fail
          go_ret
          exact ⟨rfl, rfl⟩
        · rw [if_neg (fun q => h4 q.2)]
          go_enter Tryz.func94, Tryz.ntmps94
          go_wp2_with fail
          go_ret
          exact ⟨rfl, rfl⟩
    · rw [if_neg (by omega), if_neg (fun q => h2 q.1)]
      go_enter Tryz.func94, Tryz.ntmps94
      go_wp2_with fail
      go_ret
      exact ⟨rfl, rfl⟩
theorem days_bd' {y m d : Int} (y0 : -10000000000 < y) (y1 : y < 10000000000) (m0 : -10000000000 < m) (m1 : m < 10000000000) (d0 : -10000000000 < d) (d1 : d < 10000000000) : -50000000000000 < daysS y m d ∧ daysS y m d < 50000000000000 := by
  unfold daysS dayN
  have hl : -20000000000 < lnY y + (m - 1) / 12 ∧ lnY y + (m - 1) / 12 < 20000000000 := by unfold lnY; split <;> omega
  generalize lnY y + (m - 1) / 12 = l at *
  rw [Nat.add_sub_cancel]
  have := cum_nonneg l ((m - 1) % 12).toNat
  have := cum_le l (show ((m - 1) % 12).toNat ≤ 12 by omega)
  have ha : -20000000000000 < ahd l ∧ ahd l < 20000000000000 := by unfold ahd; omega
  have hb : ahd 2000 = 730485 := by decide
  omega
set_option maxHeartbeats 400000 in
theorem seconds_r (a : Mo) (z : Int) (w : World) (ha : MoB a) (z0 : -1000000 < z) (z1 : z < 1000000) : Calls Tryz.prog 95 #[moV a, .int .i64 z] w fun e w' => e = .returned (.int .i64 (linS a z)) ∧ Below w.heap.size w w' := by
  obtain ⟨k, y, m, d, s, n, hz, zz⟩ := a
  obtain ⟨y0, y1, m0, m1, d0, d1, s0, s1, n0, n1⟩ := ha
  dsimp only at *
  have q1 := fun W : World => days_r y m d W (by omega) (by omega) (by omega) (by omega) (by omega) (by omega)
  have hb := days_bd' y0 y1 m0 m1 d0 d1
  unfold linS
  dsimp only
  have HC : Hid _ := And.intro q1 trivial
  clear q1
  generalize daysS y m d = D at *
  obtain ⟨hb0, hb1⟩ := hb
  go_enter Tryz.func95, Tryz.ntmps95
  go_wp2_with fail
  go_quiet ((go_at_call 84; exact Calls.quiet_of_same (HC.out.1 _)))
  go_wp2_with fail
  go_ret
  exact ⟨rfl, bdrewN ((Below.refl _ _).alloc (Nat.le_refl _) _) _⟩
set_option maxHeartbeats 2000000 in
theorem cmp_r1 (a b : Mo) (w : World) (ha : MoL a) (hb : MoL b) (hcase : a.k ≠ b.k ∨ a.hz = b.hz ∨ a.hz = true) : Calls Tryz.prog 53 #[moV a, moV b] w fun e w' => e = .returned (.int .i64 (cmpM a b)) ∧ Below w.heap.size w w' := by
  obtain ⟨x1, x2, hb0⟩ := box2 w (.cells (moC a) 44) (.cells (moC b) 44)
  have q0 := fun W : World => seconds_r a a.z W ha.b ha.z0 ha.z1
  have q1 := fun W : World => seconds_r b b.z W hb.b hb.z0 hb.z1
  have q2 := fun W : World => order_r (linS a a.z) a.n (linS b b.z) b.n W
  have q3 := fun W : World => seconds_r b 840 W hb.b (by omega) (by omega)
  have q4 := fun W : World => order_r (linS a a.z) a.n (linS b 840) b.n W
  have q5 := fun W : World => seconds_r b (-840) W hb.b (by omega) (by omega)
  have q6 := fun W : World => order_r (linS a a.z) a.n (linS b (-840)) b.n W
  have hF : a.k = b.k → a.hz = b.hz → cmpM a b = ordS (linS a a.z) a.n (linS b b.z) b.n := cmp_eq
  have hG : ¬ a.k = b.k → cmpM a b = 2 := fun h => by unfold cmpM; rw [if_pos h]
  have hE : a.k = b.k → a.hz = true → b.hz = false → cmpM a b = if ordS (linS a a.z) a.n (linS b 840) b.n = ordS (linS a a.z) a.n (linS b (-840)) b.n ∧ ordS (linS a a.z) a.n (linS b 840) b.n ≠ 0 then ordS (linS a a.z) a.n (linS b 840) b.n else 2 := fun h1 h2 h3 => cmp_mix h1 h2 h3
  generalize ordS (linS a a.z) a.n (linS b b.z) b.n = R0 at *
  generalize ordS (linS a a.z) a.n (linS b 840) b.n = R1 at *
  generalize ordS (linS a a.z) a.n (linS b (-840)) b.n = R2 at *
  generalize linS a a.z = LA at *
  generalize linS b b.z = LB at *
  generalize linS b 840 = LC at *
  generalize linS b (-840) = LD at *
  have HC : Hid _ := And.intro q0 (And.intro q1 (And.intro q2 (And.intro q3 (And.intro q4 (And.intro q5 (And.intro q6 hb0))))))
  clear q0 q1 q2 q3 q4 q5 q6 hb0 ha hb
  generalize cmpM a b = R at *
  have HE : Hid _ := And.intro hE (And.intro hF hG)
  clear hE hF hG
  generalize hU : ((w.alloc (.cells (moC a) 44)).alloc (.cells (moC b) 44)) = U at *
  have hkp : ∀ W, Below U.heap.size U W → (W.cell? ⟨w.heap.size, 0, none⟩ = some (.int .i64 a.k) ∧ W.cell? ⟨w.heap.size, 1, none⟩ = some (.int .i64 a.y) ∧ W.cell? ⟨w.heap.size, 2, none⟩ = some (.int .i64 a.m) ∧ W.cell? ⟨w.heap.size, 3, none⟩ = some (.int .i64 a.d) ∧ W.cell? ⟨w.heap.size, 4, none⟩ = some (.int .i64 a.s) ∧ W.cell? ⟨w.heap.size, 5, none⟩ = some (.int .i64 a.n) ∧ W.cell? ⟨w.heap.size, 6, none⟩ = some (.bool a.hz) ∧ W.cell? ⟨w.heap.size, 7, none⟩ = some (.int .i64 a.z) ∧ W.cell? ⟨w.heap.size + 1, 0, none⟩ = some (.int .i64 b.k) ∧ W.cell? ⟨w.heap.size + 1, 1, none⟩ = some (.int .i64 b.y) ∧ W.cell? ⟨w.heap.size + 1, 2, none⟩ = some (.int .i64 b.m) ∧ W.cell? ⟨w.heap.size + 1, 3, none⟩ = some (.int .i64 b.d) ∧ W.cell? ⟨w.heap.size + 1, 4, none⟩ = some (.int .i64 b.s) ∧ W.cell? ⟨w.heap.size + 1, 5, none⟩ = some (.int .i64 b.n) ∧ W.cell? ⟨w.heap.size + 1, 6, none⟩ = some (.bool b.hz) ∧ W.cell? ⟨w.heap.size + 1, 7, none⟩ = some (.int .i64 b.z)) := fun W hW => by
    obtain ⟨⟨g0, g1, g2, g3, g4, g5, g6, g7⟩, _⟩ := blk8 ((hW.block _ (lt_of x1)).trans x1)
    obtain ⟨⟨h0, h1, h2, h3, h4, h5, h6, h7⟩, _⟩ := blk8 ((hW.block _ (lt_of x2)).trans x2)
    exact ⟨g0, g1, g2, g3, g4, g5, g6, g7, h0, h1, h2, h3, h4, h5, h6, h7⟩
  have HKP : Hid _ := hkp
  clear hkp x1 x2
  have HU : Hid _ := hU
  clear hU
  by_cases hk : a.k = b.k
  · have hkk : (a.k == b.k) = true := by simpa using hk
    have hkn : (a.k != b.k) = false := by simpa using hk
    by_cases hz : a.hz = b.hz
    · obtain rfl := HE.out.2.1 hk hz
      have hzz : (a.hz == b.hz) = true := by simpa using hz
      clear hk hz HE hcase
      go_enter Tryz.func53, Tryz.ntmps53
      go_wp2_with fail
      have hU := HU.out
      rw [hU]
      clear hU
      obtain ⟨g0, g1, g2, g3, g4, g5, g6, g7, h0, h1, h2, h3, h4, h5, h6, h7⟩ := HKP.out U.drew (below_drewN 1)
      have HB : Hid (Below U.heap.size U U.drew) := below_drewN 1
      go_region_held3 (fun W => W.cell? ⟨w.heap.size, 0, none⟩ = some (.int .i64 a.k) ∧ W.cell? ⟨w.heap.size, 1, none⟩ = some (.int .i64 a.y) ∧ W.cell? ⟨w.heap.size, 2, none⟩ = some (.int .i64 a.m) ∧ W.cell? ⟨w.heap.size, 3, none⟩ = some (.int .i64 a.d) ∧ W.cell? ⟨w.heap.size, 4, none⟩ = some (.int .i64 a.s) ∧ W.cell? ⟨w.heap.size, 5, none⟩ = some (.int .i64 a.n) ∧ W.cell? ⟨w.heap.size, 6, none⟩ = some (.bool a.hz) ∧ W.cell? ⟨w.heap.size, 7, none⟩ = some (.int .i64 a.z) ∧ W.cell? ⟨w.heap.size + 1, 0, none⟩ = some (.int .i64 b.k) ∧ W.cell? ⟨w.heap.size + 1, 1, none⟩ = some (.int .i64 b.y) ∧ W.cell? ⟨w.heap.size + 1, 2, none⟩ = some (.int .i64 b.m) ∧ W.cell? ⟨w.heap.size + 1, 3, none⟩ = some (.int .i64 b.d) ∧ W.cell? ⟨w.heap.size + 1, 4, none⟩ = some (.int .i64 b.s) ∧ W.cell? ⟨w.heap.size + 1, 5, none⟩ = some (.int .i64 b.n) ∧ W.cell? ⟨w.heap.size + 1, 6, none⟩ = some (.bool b.hz) ∧ W.cell? ⟨w.heap.size + 1, 7, none⟩ = some (.int .i64 b.z)) (first | exact ⟨g0, g1, g2, g3, g4, g5, g6, g7, h0, h1, h2, h3, h4, h5, h6, h7⟩ | fail) (first
        | (go_at_call 95; (with_reducible refine Calls.mono (HC.out.1 _) ?_); rintro e w1 ⟨rfl, hb1⟩; have hbb := HB.out.trans (hb1.mono HB.out.size); clear HB g0 g1 g2 g3 g4 g5 g6 g7 h0 h1 h2 h3 h4 h5 h6 h7; obtain ⟨g0, g1, g2, g3, g4, g5, g6, g7, h0, h1, h2, h3, h4, h5, h6, h7⟩ := HKP.out _ hbb; have HB : Hid _ := hbb; clear hbb hb1)
        | (go_at_call 95; (with_reducible refine Calls.mono (HC.out.2.1 _) ?_); rintro e w1 ⟨rfl, hb1⟩; have hbb := HB.out.trans (hb1.mono HB.out.size); clear HB g0 g1 g2 g3 g4 g5 g6 g7 h0 h1 h2 h3 h4 h5 h6 h7; obtain ⟨g0, g1, g2, g3, g4, g5, g6, g7, h0, h1, h2, h3, h4, h5, h6, h7⟩ := HKP.out _ hbb; have HB : Hid _ := hbb; clear hbb hb1)
        | (go_at_call 94; (with_reducible refine Calls.mono (HC.out.2.2.1 _) ?_); rintro e w3 ⟨rfl, hw3⟩; subst hw3)
        | fail)
      go_wp2_with fail
      go_ret
      exact ⟨rfl, HC.out.2.2.2.2.2.2.2.trans (HB.out.mono HC.out.2.2.2.2.2.2.2.size)⟩
    · have haz : a.hz = true := by
        rcases hcase with q | q | q
        · exact absurd hk q
        · exact absurd q hz
        · exact q
      have hbz : b.hz = false := by
        cases hq : b.hz
        · rfl
        · rw [haz, hq] at hz; exact absurd rfl hz
      have HR : Hid _ := HE.out.1 hk haz hbz
      clear hk hz HE hcase
      obtain ⟨ak, ay, am, ad, as_, an, ah, az⟩ := a
      obtain ⟨bk, byy, bm, bd, bs, bn, bh, bz⟩ := b
      dsimp only at *
      subst haz hbz
      go_enter Tryz.func53, Tryz.ntmps53
      go_wp2_with fail
      have hU := HU.out
      rw [hU]
      clear hU
      obtain ⟨g0, g1, g2, g3, g4, g5, g6, g7, h0, h1, h2, h3, h4, h5, h6, h7⟩ := HKP.out U.drew (below_drewN 1)
      have HB : Hid (Below U.heap.size U U.drew) := below_drewN 1
      go_region_held3 (fun W => W.cell? ⟨w.heap.size, 0, none⟩ = some (.int .i64 ak) ∧ W.cell? ⟨w.heap.size, 1, none⟩ = some (.int .i64 ay) ∧ W.cell? ⟨w.heap.size, 2, none⟩ = some (.int .i64 am) ∧ W.cell? ⟨w.heap.size, 3, none⟩ = some (.int .i64 ad) ∧ W.cell? ⟨w.heap.size, 4, none⟩ = some (.int .i64 as_) ∧ W.cell? ⟨w.heap.size, 5, none⟩ = some (.int .i64 an) ∧ W.cell? ⟨w.heap.size, 6, none⟩ = some (.bool true) ∧ W.cell? ⟨w.heap.size, 7, none⟩ = some (.int .i64 az) ∧ W.cell? ⟨w.heap.size + 1, 0, none⟩ = some (.int .i64 bk) ∧ W.cell? ⟨w.heap.size + 1, 1, none⟩ = some (.int .i64 byy) ∧ W.cell? ⟨w.heap.size + 1, 2, none⟩ = some (.int .i64 bm) ∧ W.cell? ⟨w.heap.size + 1, 3, none⟩ = some (.int .i64 bd) ∧ W.cell? ⟨w.heap.size + 1, 4, none⟩ = some (.int .i64 bs) ∧ W.cell? ⟨w.heap.size + 1, 5, none⟩ = some (.int .i64 bn) ∧ W.cell? ⟨w.heap.size + 1, 6, none⟩ = some (.bool false) ∧ W.cell? ⟨w.heap.size + 1, 7, none⟩ = some (.int .i64 bz)) (first | exact ⟨g0, g1, g2, g3, g4, g5, g6, g7, h0, h1, h2, h3, h4, h5, h6, h7⟩ | fail) (first
        | (go_at_call 95; (with_reducible refine Calls.mono (HC.out.1 _) ?_); rintro e w1 ⟨rfl, hb1⟩; have hbb := HB.out.trans (hb1.mono HB.out.size); clear HB g0 g1 g2 g3 g4 g5 g6 g7 h0 h1 h2 h3 h4 h5 h6 h7; obtain ⟨g0, g1, g2, g3, g4, g5, g6, g7, h0, h1, h2, h3, h4, h5, h6, h7⟩ := HKP.out _ hbb; have HB : Hid _ := hbb; clear hbb hb1)
        | (go_at_call 95; (with_reducible refine Calls.mono (HC.out.2.2.2.1 _) ?_); rintro e w1 ⟨rfl, hb1⟩; have hbb := HB.out.trans (hb1.mono HB.out.size); clear HB g0 g1 g2 g3 g4 g5 g6 g7 h0 h1 h2 h3 h4 h5 h6 h7; obtain ⟨g0, g1, g2, g3, g4, g5, g6, g7, h0, h1, h2, h3, h4, h5, h6, h7⟩ := HKP.out _ hbb; have HB : Hid _ := hbb; clear hbb hb1)
        | (go_at_call 94; (with_reducible refine Calls.mono (HC.out.2.2.2.2.1 _) ?_); rintro e w3 ⟨rfl, hw3⟩; subst hw3)
        | fail)
      go_wp2_with fail
      have HB2 : Hid (Below U.heap.size U w3.drew) := bdrewN HB.out 1
      clear HB g0 g1 g2 g3 g4 g5 g6 g7 h0 h1 h2 h3 h4 h5 h6 h7
      obtain ⟨g0, g1, g2, g3, g4, g5, g6, g7, h0, h1, h2, h3, h4, h5, h6, h7⟩ := HKP.out w3.drew HB2.out
      have HB : Hid _ := HB2.out
      go_region_held3 (fun W => W.cell? ⟨w.heap.size, 0, none⟩ = some (.int .i64 ak) ∧ W.cell? ⟨w.heap.size, 1, none⟩ = some (.int .i64 ay) ∧ W.cell? ⟨w.heap.size, 2, none⟩ = some (.int .i64 am) ∧ W.cell? ⟨w.heap.size, 3, none⟩ = some (.int .i64 ad) ∧ W.cell? ⟨w.heap.size, 4, none⟩ = some (.int .i64 as_) ∧ W.cell? ⟨w.heap.size, 5, none⟩ = some (.int .i64 an) ∧ W.cell? ⟨w.heap.size, 6, none⟩ = some (.bool true) ∧ W.cell? ⟨w.heap.size, 7, none⟩ = some (.int .i64 az) ∧ W.cell? ⟨w.heap.size + 1, 0, none⟩ = some (.int .i64 bk) ∧ W.cell? ⟨w.heap.size + 1, 1, none⟩ = some (.int .i64 byy) ∧ W.cell? ⟨w.heap.size + 1, 2, none⟩ = some (.int .i64 bm) ∧ W.cell? ⟨w.heap.size + 1, 3, none⟩ = some (.int .i64 bd) ∧ W.cell? ⟨w.heap.size + 1, 4, none⟩ = some (.int .i64 bs) ∧ W.cell? ⟨w.heap.size + 1, 5, none⟩ = some (.int .i64 bn) ∧ W.cell? ⟨w.heap.size + 1, 6, none⟩ = some (.bool false) ∧ W.cell? ⟨w.heap.size + 1, 7, none⟩ = some (.int .i64 bz)) (first | exact ⟨g0, g1, g2, g3, g4, g5, g6, g7, h0, h1, h2, h3, h4, h5, h6, h7⟩ | fail) (first
        | (go_at_call 95; (with_reducible refine Calls.mono (HC.out.1 _) ?_); rintro e w1 ⟨rfl, hb1⟩; have hbb := HB.out.trans (hb1.mono HB.out.size); clear HB g0 g1 g2 g3 g4 g5 g6 g7 h0 h1 h2 h3 h4 h5 h6 h7; obtain ⟨g0, g1, g2, g3, g4, g5, g6, g7, h0, h1, h2, h3, h4, h5, h6, h7⟩ := HKP.out _ hbb; have HB : Hid _ := hbb; clear hbb hb1)
        | (go_at_call 95; (with_reducible refine Calls.mono (HC.out.2.2.2.2.2.1 _) ?_); rintro e w1 ⟨rfl, hb1⟩; have hbb := HB.out.trans (hb1.mono HB.out.size); clear HB g0 g1 g2 g3 g4 g5 g6 g7 h0 h1 h2 h3 h4 h5 h6 h7; obtain ⟨g0, g1, g2, g3, g4, g5, g6, g7, h0, h1, h2, h3, h4, h5, h6, h7⟩ := HKP.out _ hbb; have HB : Hid _ := hbb; clear hbb hb1)
        | (go_at_call 94; (with_reducible refine Calls.mono (HC.out.2.2.2.2.2.2.1 _) ?_); rintro e w3 ⟨rfl, hw3⟩; subst hw3)
        | fail)
      by_cases hq : R1 = R2
      · have hqb : (R1 == R2) = true := by simpa using hq
        by_cases hq0 : R1 = 0
        · have hq0b : (R1 != 0) = false := by simpa using hq0
          have hR : R = 2 := by rw [HR.out, if_neg (fun q => q.2 hq0)]
          clear hq hq0
          go_wp2_with fail
          go_ret
          exact ⟨ret_int hR.symm, HC.out.2.2.2.2.2.2.2.trans (HB.out.mono HC.out.2.2.2.2.2.2.2.size)⟩
        · have hq0b : (R1 != 0) = true := by simpa using hq0
          have hR : R = R1 := by rw [HR.out, if_pos ⟨hq, hq0⟩]
          have HRR : Hid _ := hR
          clear hq hq0 hR
          go_wp2_with fail
          go_ret
          exact ⟨ret_int HRR.out.symm, HC.out.2.2.2.2.2.2.2.trans (HB.out.mono HC.out.2.2.2.2.2.2.2.size)⟩
      · have hqb : (R1 == R2) = false := by simpa using hq
        have hR : R = 2 := by rw [HR.out, if_neg (fun q => hq q.1)]
        clear hq
        go_wp2_with fail
        go_ret
        exact ⟨ret_int hR.symm, HC.out.2.2.2.2.2.2.2.trans (HB.out.mono HC.out.2.2.2.2.2.2.2.size)⟩
  · obtain rfl := HE.out.2.2 hk
    have hkk : (a.k == b.k) = false := by simpa using hk
    have hkn : (a.k != b.k) = true := by simpa using hk
    clear hk HE hcase
    go_enter Tryz.func53, Tryz.ntmps53
    go_wp2_with fail
    go_ret
    refine ⟨rfl, ?_⟩
    rw [HU.out]
    exact HC.out.2.2.2.2.2.2.2
set_option maxHeartbeats 1000000 in
theorem cmp_r (a b : Mo) (w : World) (ha : MoL a) (hb : MoL b) : Calls Tryz.prog 53 #[moV a, moV b] w fun e w' => e = .returned (.int .i64 (cmpM a b)) ∧ Below w.heap.size w w' := by
  by_cases hcase : a.k ≠ b.k ∨ a.hz = b.hz ∨ a.hz = true
  · exact cmp_r1 a b w ha hb hcase
  · have hk : a.k = b.k := Classical.byContradiction fun q => hcase (.inl q)
    have hz : a.hz ≠ b.hz := fun q => hcase (.inr (.inl q))
    have haz : a.hz = false := by
      cases q : a.hz
      · rfl
      · exact absurd (.inr (.inr q)) hcase
    have hbz : b.hz = true := by
      cases q : b.hz
      · rw [haz, q] at hz; exact absurd rfl hz
      · rfl
    have q1 := fun W : World => cmp_r1 b a W hb ha (.inr (.inr hbz))
    have hturn := cmp_turn b a
    have hin := cmp_in b a
    obtain ⟨x1, x2, hb0⟩ := box2 w (.cells (moC a) 44) (.cells (moC b) 44)
    generalize cmpM b a = R1 at *
    generalize cmpM a b = R at *
    have HC : Hid _ := And.intro q1 (And.intro hturn hb0)
    have hkk : (a.k == b.k) = true := by simpa using hk
    have hkn : (a.k != b.k) = false := by simpa using hk
    clear hcase hk hz q1 hturn ha hb x1 x2 hb0
    obtain ⟨ak, ay, am, ad, as_, an, ah, az⟩ := a
    obtain ⟨bk, byy, bm, bd, bs, bn, bh, bz⟩ := b
    dsimp only at *
    subst haz hbz
    have hR1 : -1 ≤ R1 ∧ R1 ≤ 2 := by omega
    obtain ⟨hR10, hR11⟩ := hR1
    clear hin
    by_cases h2 : R1 = 2
    · have hR : R = 2 := by rw [HC.out.2.1, if_pos h2]
      have h2b : (R1 == 2) = true := by simpa using h2
      have HR : Hid _ := hR
      clear h2 hR
      go_enter Tryz.func53, Tryz.ntmps53
      go_wp2_with fail
      refine Calls.mono (HC.out.1 _) ?_
      rintro e w1 ⟨rfl, hb1⟩
      have HB : Hid _ := HC.out.2.2.trans (hb1.mono HC.out.2.2.size)
      clear hb1
      go_wp2_with fail
      go_ret
      exact ⟨ret_int HR.out.symm, HB.out⟩
    · have hR : R = -R1 := by rw [HC.out.2.1, if_neg h2]
      have h2b : (R1 == 2) = false := by simpa using h2
      have HR : Hid _ := hR
      clear h2 hR
      go_enter Tryz.func53, Tryz.ntmps53
      go_wp2_with fail
      refine Calls.mono (HC.out.1 _) ?_
      rintro e w1 ⟨rfl, hb1⟩
      have HB : Hid _ := HC.out.2.2.trans (hb1.mono HC.out.2.2.size)
      clear hb1
      go_wp2_with fail
      go_ret
      exact ⟨ret_int HR.out.symm, HB.out⟩
end Go.Proofs.YtgaegajcejpmdaaGreatDoor.Dt
