/- The second telling's Parse at kind 1. -/
import Derived.Test.YtijcbgjlofcdfaaJ39
import Derived.Test.YtijcbgjlofcdfaaQr2
namespace Go.Proofs.Ytijcbgjlofcdfaa
open Go.RowKit
set_option linter.unusedVariables false

set_option maxRecDepth 8000 in
set_option maxHeartbeats 4000000 in
theorem parse_r1 (s : ByteArray) (w : World) (hs : s.size ≤ maxLen) : Calls Try.prog 11 #[.int .i64 1, .string s] w fun e w' => PaQ (prM 1 (bl s)) w e w' := by
  have hnum := hs
  unfold maxLen at hnum
  go_enter Try.func11, Try.ntmps11
  go_upto_region 10 with fail
  obtain ⟨W0, hW0, HP0'⟩ := PZ.ex (PZ.init w s 1)
  rw [hW0]
  have HP0 : Hid _ := HP0'
  clear hW0 HP0'
  go_wp2_with fail
  refine Calls.mono (year_r (w.heap.size + 1) s 0 _ HP0.out.x hs HP0.out.le) ?_
  rintro e w1 ⟨p1, b1, v1, rfl, r1, v1l, v1h, k1⟩
  have HP1' : Hid _ := HP0.out.rp r1
  have HK1 : Hid _ := And.intro k1 r1.st
  obtain ⟨⟨c0, c1, c2, c3, c4, c5, c6, c7⟩, f0, f1, f2, f3, f4, f5, f6, f7⟩ := blk8 HP1'.out.y
  clear r1 k1
  go_upto_region 17 with fail
  obtain ⟨W1, hW1, HQ1⟩ := PZ.ex (PZ.setY HP1'.out 1 (.int .i64 v1) (a' := ⟨1, v1, 1, 1, 0, 0, false, 0⟩) rfl)
  rw [hW1]
  have HP1 : Hid _ := HQ1
  clear hW1 HQ1 HP1' c0 c1 c2 c3 c4 c5 c6 c7 f0 f1 f2 f3 f4 f5 f6 f7
  go_wp2_with fail
  refine Calls.mono (take_r (w.heap.size + 1) s p1 b1 45 _ HP1.out.x hs HP1.out.le) ?_
  rintro e w2 ⟨p2, b2, rfl, r2, k2⟩
  have HP2 : Hid _ := HP1.out.rp r2
  have HK2 : Hid _ := And.intro k2 r2.st
  clear r2 k2
  go_wp2_with fail
  refine Calls.mono (in_r (w.heap.size + 1) s p2 b2 1 12 _ HP2.out.x hs HP2.out.le) ?_
  rintro e w3 ⟨p3, b3, v3, rfl, r3, v3l, v3h, k3⟩
  have HP3' : Hid _ := HP2.out.rp r3
  have HK3 : Hid _ := And.intro k3 r3.st
  clear r3 k3
  obtain ⟨⟨c0, c1, c2, c3, c4, c5, c6, c7⟩, f0, f1, f2, f3, f4, f5, f6, f7⟩ := blk8 HP3'.out.y
  go_upto_region 20 with fail
  obtain ⟨W3, hW3, HQ3⟩ := PZ.ex (PZ.setY HP3'.out 2 (.int .i64 v3) (a' := ⟨1, v1, v3, 1, 0, 0, false, 0⟩) rfl)
  rw [hW3]
  have HP3 : Hid _ := HQ3
  clear hW3 HQ3 HP3' c0 c1 c2 c3 c4 c5 c6 c7 f0 f1 f2 f3 f4 f5 f6 f7
  go_wp2_with fail
  refine Calls.mono (take_r (w.heap.size + 1) s p3 b3 45 _ HP3.out.x hs HP3.out.le) ?_
  rintro e w4 ⟨p4, b4, rfl, r4, k4⟩
  have HP4 : Hid _ := HP3.out.rp r4
  have HK4 : Hid _ := And.intro k4 r4.st
  clear r4 k4
  obtain ⟨⟨c0, c1, c2, c3, c4, c5, c6, c7⟩, f0, f1, f2, f3, f4, f5, f6, f7⟩ := blk8 HP4.out.y
  go_upto_region 24 with fail
  have hl5 : ∀ W : World, _ := fun W => length_r v1 v3 W (by omega) (by omega) (by omega) (by omega)
  obtain ⟨LN, hLN⟩ : ∃ LN, lenL (lnY v1) v3 = LN := ⟨_, rfl⟩
  rw [hLN] at hl5
  have HL : Hid _ := And.intro hl5 hLN
  clear hl5 hLN
  go_wp2_with (first | (go_at_call 25; with_reducible refine Calls.mono (HL.out.1 _) ?_; rintro e w' ⟨rfl, hw⟩; subst hw))
  clear c0 c1 c2 c3 c4 c5 c6 c7 f0 f1 f2 f3 f4 f5 f6 f7
  refine Calls.mono (in_r (w.heap.size + 1) s p4 b4 1 LN _ HP4.out.x hs HP4.out.le) ?_
  rintro e w5 ⟨p5, b5, v5, rfl, r5, v5l, v5h, k5⟩
  have HP5' : Hid _ := HP4.out.rp r5
  have HK5 : Hid _ := And.intro k5 r5.st
  clear r5 k5
  obtain ⟨⟨c0, c1, c2, c3, c4, c5, c6, c7⟩, f0, f1, f2, f3, f4, f5, f6, f7⟩ := blk8 HP5'.out.y
  go_upto_region 26 with fail
  obtain ⟨W5, hW5, HQ5⟩ := PZ.ex (PZ.setY HP5'.out 3 (.int .i64 v5) (a' := ⟨1, v1, v3, v5, 0, 0, false, 0⟩) rfl)
  rw [hW5]
  have HP5 : Hid _ := HQ5
  clear hW5 HQ5 HP5' c0 c1 c2 c3 c4 c5 c6 c7 f0 f1 f2 f3 f4 f5 f6 f7
  go_wp2_with fail
  refine Calls.mono (take_r (w.heap.size + 1) s p5 b5 84 _ HP5.out.x hs HP5.out.le) ?_
  rintro e w6 ⟨p6, b6, rfl, r6, k6⟩
  have HP6 : Hid _ := HP5.out.rp r6
  have HK6 : Hid _ := And.intro k6 r6.st
  clear r6 k6
  go_wp2_with fail
  refine Calls.mono (clock_r (w.heap.size + 1) s p6 b6 _ HP6.out.x hs HP6.out.le) ?_
  rintro e w7 ⟨p7, b7, v7, u7, rfl, r7, v7l, v7h, u7l, u7h, k7⟩
  have HP7' : Hid _ := HP6.out.rp r7
  have HK7 : Hid _ := And.intro k7 r7.st
  clear r7 k7
  obtain ⟨⟨c0, c1, c2, c3, c4, c5, c6, c7⟩, f0, f1, f2, f3, f4, f5, f6, f7⟩ := blk8 HP7'.out.y
  go_upto_region 30 with fail
  obtain ⟨W7, hW7, HQ7⟩ := PZ.ex (PZ.setY (PZ.setY HP7'.out 4 (.int .i64 v7) (a' := ⟨1, v1, v3, v5, v7, 0, false, 0⟩) rfl) 5 (.int .i64 u7) (a' := ⟨1, v1, v3, v5, v7, u7, false, 0⟩) rfl)
  rw [hW7]
  have HP7 : Hid _ := HQ7
  clear hW7 HQ7 HP7' c0 c1 c2 c3 c4 c5 c6 c7 f0 f1 f2 f3 f4 f5 f6 f7
  go_wp2_with fail
  refine Calls.mono (zone_r (w.heap.size + 1) (w.heap.size + 1 + 1) s p7 b7 1 v1 v3 v5 v7 u7 _ HP7.out.zs hs) ?_
  rintro e wz ⟨pz, bz, hz, z, rfl, zz, stz, zl, zh, kz⟩
  have HZ : Hid _ := HP7.out.ofz zz
  have HKZ : Hid _ := And.intro kz stz
  clear zz kz stz
  dsimp only at HZ
  have hF : PrV (prM 1 (bl s)) s pz bz (nxM ⟨1, v1, v3, v5, v7, u7, hz, z⟩) := by
    rw [pr_1]
    exact PrV.stepV HK1.out.1 (fun q => (fun q => (fun q => (fun q => (fun q => (fun q => HKZ.out.2 (HK7.out.2 q)) (HK6.out.2 q)) (HK5.out.2 q)) (HK4.out.2 q)) (HK3.out.2 q)) (HK2.out.2 q)) (fun h1 => PrV.stepT h1 HK2.out.1 (fun q => (fun q => (fun q => (fun q => (fun q => HKZ.out.2 (HK7.out.2 q)) (HK6.out.2 q)) (HK5.out.2 q)) (HK4.out.2 q)) (HK3.out.2 q)) (fun h2 => PrV.stepV (HK3.out.1 h2) (fun q => (fun q => (fun q => (fun q => HKZ.out.2 (HK7.out.2 q)) (HK6.out.2 q)) (HK5.out.2 q)) (HK4.out.2 q)) (fun h3 => PrV.stepT h3 HK4.out.1 (fun q => (fun q => (fun q => HKZ.out.2 (HK7.out.2 q)) (HK6.out.2 q)) (HK5.out.2 q)) (fun h4 => PrV.stepV (by rw [HL.out.2]; exact HK5.out.1 h4) (fun q => (fun q => HKZ.out.2 (HK7.out.2 q)) (HK6.out.2 q)) (fun h5 => PrV.stepT h5 HK6.out.1 (fun q => HKZ.out.2 (HK7.out.2 q)) (fun h6 => PrV.stepV (HK7.out.1 h6) HKZ.out.2 (fun h7 => PrV.last (HKZ.out.1 h7))))))))
  have HF : Hid _ := hF
  clear hF HKZ HK1 HP1 HK2 HP2 HK3 HP3 HK4 HP4 HK5 HP5 HK6 HP6 HK7 HP7 HP0 HL
  obtain ⟨g0, g1, g2, _⟩ := HZ.out.x.cells
  obtain ⟨⟨c0, c1, c2, c3, c4, c5, c6, c7⟩, f0, f1, f2, f3, f4, f5, f6, f7⟩ := blk8 HZ.out.y
  obtain ⟨⟨e0, e1, e2, e3, e4, e5, e6, e7⟩, i0, i1, i2, i3, i4, i5, i6, i7⟩ := blk8 HZ.out.r
  cases bz
  · by_cases hlt : pz < s.size
    · have d1 : decide ((pz : Int) < (s.size : Int)) = true := by simp; omega
      go_wp2_with fail
      go_quiet (fail)
      go_wp2_with fail
      obtain ⟨U, hU, hx, hb, _⟩ := put8 (X := w.heap.size) (PZ.drewN HZ.out nq).hb (Nat.le_refl _) (PZ.drewN HZ.out nq).r (.int .i64 0) (.int .i64 0) (.int .i64 0) (.int .i64 0) (.int .i64 0) (.int .i64 0) (.bool false) (.int .i64 0)
      rw [hU]
      obtain ⟨⟨k0, k1, k2, k3, k4, k5, k6, k7⟩, _⟩ := blk8 hx
      exact bodyPost_ret (v := .tuple #[moV z0, .int .i64 2]) (by simp [results, Try.results11, go_sem, k0, k1, k2, k3, k4, k5, k6, k7]) rfl (PaQ.no (HF.out.no (.inr hlt)) hb)
    · have d1 : decide ((pz : Int) < (s.size : Int)) = false := by simp; omega
      by_cases h24 : v7 = 86400
      · subst h24
        go_wp2_with fail
        go_quiet (fail)
        go_upto_region 36 with fail
        obtain ⟨V, hV, HV'⟩ := PZ.ex (PZ.setY (PZ.drewN HZ.out nq) 4 (.int .i64 0) (a' := ⟨1, v1, v3, v5, 0, u7, hz, z⟩) rfl)
        rw [hV]
        have HV : Hid _ := HV'
        clear hV HV' g0 g1 c0 c1 c2 c3 c4 c5 c6 c7 f0 f1 f2 f3 f4 f5 f6 f7 e0 e1 e2 e3 e4 e5 e6 e7 i0 i1 i2 i3 i4 i5 i6 i7
        have hd := days_bd' (y := v1) (m := v3) (d := v5) (by omega) (by omega) (by omega) (by omega) (by omega) (by omega)
        have q7 := fun W : World => days_r v1 v3 v5 W (by omega) (by omega) (by omega) (by omega) (by omega) (by omega)
        have q8 := fun W : World => put_r ⟨1, v1, v3, v5, 0, u7, hz, z⟩ (daysS v1 v3 v5 + 1) W (by omega) (by omega)
        have hFF := HF.out.ok hlt
        have hnx : nxM ⟨1, v1, v3, v5, 86400, u7, hz, z⟩ = ⟨1, bkY (civL (daysS v1 v3 v5 + 1)), (civM (daysS v1 v3 v5 + 1) : Nat), civD (daysS v1 v3 v5 + 1), 0, u7, hz, z⟩ := rfl
        rw [hnx] at hFF
        dsimp only at q8
        obtain ⟨RR, hRR⟩ : ∃ RR : Mo, (⟨1, bkY (civL (daysS v1 v3 v5 + 1)), (civM (daysS v1 v3 v5 + 1) : Nat), civD (daysS v1 v3 v5 + 1), 0, u7, hz, z⟩ : Mo) = RR := ⟨_, rfl⟩
        have q8' : ∀ W : World, Calls Try.prog 34 #[moV ⟨1, v1, v3, v5, 0, u7, hz, z⟩, .int .i64 (daysS v1 v3 v5 + 1)] W fun e w' => e = .returned (moV RR) ∧ Below W.heap.size W w' := by
          rw [← hRR]
          exact q8
        rw [hRR] at hFF
        clear q8 hnx hRR
        generalize daysS v1 v3 v5 = DD at *
        have HC : Hid _ := And.intro q7 (And.intro q8' hFF)
        clear q7 q8' hFF HF
        obtain ⟨hd0, hd1⟩ := hd
        have hwr : IntKind.i64.wrap (DD + 1) = DD + 1 := by rw [IntKind.wrap_i64]; omega
        have y0 : V.drew.heap[w.heap.size + 1 + 1]? = some (.cells (moC ⟨1, v1, v3, v5, 0, u7, hz, z⟩) 28 (0, 0)) := HV.out.y
        obtain ⟨⟨c0, c1, c2, c3, c4, c5, c6, c7⟩, f0, f1, f2, f3, f4, f5, f6, f7⟩ := blk8 y0
        have HY0 : Hid _ := y0
        clear y0
        go_cut [] (fun wx => wx.heap[w.heap.size]? = some (.cells mo0 28 (0, 0)) ∧ wx.heap[w.heap.size + 1 + 1]? = some (.cells (moC RR) 28 (0, 0)) ∧ Below w.heap.size w wx)
        case first =>
          go_region_with (first
            | (go_at_call 21; (with_reducible refine Calls.mono (HC.out.1 _) ?_); rintro e w9 ⟨rfl, hw⟩; subst hw)
            | (go_at_call 34; (with_reducible refine Calls.mono (HC.out.2.1 _) ?_); rintro e w9 ⟨rfl, hb9⟩; have y9 := (hb9.block _ (lt_of HY0.out)).trans HY0.out; clear c0 c1 c2 c3 c4 c5 c6 c7 f0 f1 f2 f3 f4 f5 f6 f7; obtain ⟨⟨c0, c1, c2, c3, c4, c5, c6, c7⟩, f0, f1, f2, f3, f4, f5, f6, f7⟩ := blk8 y9; have HE : Hid _ := And.intro hb9 y9; clear hb9 y9))
          all_goals
            go_wp2_with fail
            go_meet
            case rel =>
              obtain ⟨U1, hU1, hx1, hb1, hk1⟩ := put8 (N := w.heap.size) (X := w.heap.size + 1 + 1) ((PZ.drewN HV.out 1).hb.trans (HE.out.1.mono (PZ.drewN HV.out 1).hb.size)) (by omega) HE.out.2 (.int .i64 RR.k) (.int .i64 RR.y) (.int .i64 RR.m) (.int .i64 RR.d) (.int .i64 RR.s) (.int .i64 RR.n) (.bool RR.hz) (.int .i64 RR.z)
              rw [hU1]
              exact ⟨(hk1.1 _ (by omega)).trans ((HE.out.1.block _ (lt_of (w := V.drew) HV.out.r)).trans HV.out.r), hx1, hb1⟩
        case rest =>
          obtain ⟨xr, hx1, hb1⟩ := hcut
          clear c0 c1 c2 c3 c4 c5 c6 c7 f0 f1 f2 f3 f4 f5 f6 f7
          obtain ⟨⟨c0, c1, c2, c3, c4, c5, c6, c7⟩, _⟩ := blk8 hx1
          obtain ⟨⟨e0, e1, e2, e3, e4, e5, e6, e7⟩, i0, i1, i2, i3, i4, i5, i6, i7⟩ := blk8 xr
          have HU : Hid _ := And.intro hb1 xr
          clear hb1 xr hx1
          go_wp2_with fail
          obtain ⟨U, hU, hx, hb, _⟩ := put8 (X := w.heap.size) HU.out.1 (Nat.le_refl _) HU.out.2 (.int .i64 RR.k) (.int .i64 RR.y) (.int .i64 RR.m) (.int .i64 RR.d) (.int .i64 RR.s) (.int .i64 RR.n) (.bool RR.hz) (.int .i64 RR.z)
          rw [hU]
          obtain ⟨⟨k0, k1, k2, k3, k4, k5, k6, k7⟩, _⟩ := blk8 hx
          exact bodyPost_ret (v := .tuple #[moV RR, .int .i64 0]) (by simp [results, Try.results11, go_sem, k0, k1, k2, k3, k4, k5, k6, k7]) rfl (PaQ.yes HC.out.2.2 hb)
      · have d2 : (v7 == 86400) = false := by simpa using h24
        go_wp2_with fail
        go_quiet (fail)
        go_wp2_with fail
        obtain ⟨U, hU, hx, hb, _⟩ := put8 (X := w.heap.size) (PZ.drewN HZ.out nq).hb (Nat.le_refl _) (PZ.drewN HZ.out nq).r (.int .i64 1) (.int .i64 v1) (.int .i64 v3) (.int .i64 v5) (.int .i64 v7) (.int .i64 u7) (.bool hz) (.int .i64 z)
        rw [hU]
        obtain ⟨⟨k0, k1, k2, k3, k4, k5, k6, k7⟩, _⟩ := blk8 hx
        exact bodyPost_ret (v := .tuple #[moV ⟨1, v1, v3, v5, v7, u7, hz, z⟩, .int .i64 0]) (by simp [results, Try.results11, go_sem, k0, k1, k2, k3, k4, k5, k6, k7]) rfl (PaQ.yes (by rw [HF.out.ok hlt, nx_not h24]) hb)
  · go_wp2_with fail
    go_quiet (fail)
    go_wp2_with fail
    obtain ⟨U, hU, hx, hb, _⟩ := put8 (X := w.heap.size) (PZ.drewN HZ.out nq).hb (Nat.le_refl _) (PZ.drewN HZ.out nq).r (.int .i64 0) (.int .i64 0) (.int .i64 0) (.int .i64 0) (.int .i64 0) (.int .i64 0) (.bool false) (.int .i64 0)
    rw [hU]
    obtain ⟨⟨k0, k1, k2, k3, k4, k5, k6, k7⟩, _⟩ := blk8 hx
    exact bodyPost_ret (v := .tuple #[moV z0, .int .i64 2]) (by simp [results, Try.results11, go_sem, k0, k1, k2, k3, k4, k5, k6, k7]) rfl (PaQ.no (HF.out.no (.inl rfl)) hb)
end Go.Proofs.Ytijcbgjlofcdfaa
