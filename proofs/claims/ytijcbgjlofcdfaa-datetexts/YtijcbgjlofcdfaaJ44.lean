/- Joined: Pr7, Pr8. -/
import Derived.Test.YtijcbgjlofcdfaaJ39
namespace Go.Proofs.Ytijcbgjlofcdfaa
open Go.RowKit
set_option linter.unusedVariables false

set_option maxRecDepth 8000 in
set_option maxHeartbeats 4000000 in
theorem parse_r7 (s : ByteArray) (w : World) (hs : s.size ≤ maxLen) : Calls Try.prog 11 #[.int .i64 7, .string s] w fun e w' => PaQ (prM 7 (bl s)) w e w' := by
  have hnum := hs
  unfold maxLen at hnum
  go_enter Try.func11, Try.ntmps11
  go_upto_region 15 with fail
  obtain ⟨W0, hW0, HP0'⟩ := PZ.ex (PZ.init w s 7)
  rw [hW0]
  have HP0 : Hid _ := HP0'
  clear hW0 HP0'
  go_wp2_with fail
  refine Calls.mono (take_r (w.heap.size + 1) s 0 false 45 _ HP0.out.x hs HP0.out.le) ?_
  rintro e w1 ⟨p1, b1, rfl, r1, k1⟩
  have HP1 : Hid _ := HP0.out.rp r1
  have HK1 : Hid _ := And.intro k1 r1.st
  clear r1 k1
  go_wp2_with fail
  refine Calls.mono (take_r (w.heap.size + 1) s p1 b1 45 _ HP1.out.x hs HP1.out.le) ?_
  rintro e w2 ⟨p2, b2, rfl, r2, k2⟩
  have HP2 : Hid _ := HP1.out.rp r2
  have HK2 : Hid _ := And.intro k2 r2.st
  clear r2 k2
  go_wp2_with fail
  refine Calls.mono (take_r (w.heap.size + 1) s p2 b2 45 _ HP2.out.x hs HP2.out.le) ?_
  rintro e w3 ⟨p3, b3, rfl, r3, k3⟩
  have HP3 : Hid _ := HP2.out.rp r3
  have HK3 : Hid _ := And.intro k3 r3.st
  clear r3 k3
  go_wp2_with fail
  refine Calls.mono (in_r (w.heap.size + 1) s p3 b3 1 31 _ HP3.out.x hs HP3.out.le) ?_
  rintro e w4 ⟨p4, b4, v4, rfl, r4, v4l, v4h, k4⟩
  have HP4' : Hid _ := HP3.out.rp r4
  have HK4 : Hid _ := And.intro k4 r4.st
  clear r4 k4
  obtain ⟨⟨c0, c1, c2, c3, c4, c5, c6, c7⟩, f0, f1, f2, f3, f4, f5, f6, f7⟩ := blk8 HP4'.out.y
  go_upto_region 26 with fail
  obtain ⟨W4, hW4, HQ4⟩ := PZ.ex (PZ.setY HP4'.out 3 (.int .i64 v4) (a' := ⟨7, 2000, 1, v4, 0, 0, false, 0⟩) rfl)
  rw [hW4]
  have HP4 : Hid _ := HQ4
  clear hW4 HQ4 HP4' c0 c1 c2 c3 c4 c5 c6 c7 f0 f1 f2 f3 f4 f5 f6 f7
  go_wp2_with fail
  refine Calls.mono (zone_r (w.heap.size + 1) (w.heap.size + 1 + 1) s p4 b4 7 2000 1 v4 0 0 _ HP4.out.zs hs) ?_
  rintro e wz ⟨pz, bz, hz, z, rfl, zz, stz, zl, zh, kz⟩
  have HZ : Hid _ := HP4.out.ofz zz
  have HKZ : Hid _ := And.intro kz stz
  clear zz kz stz
  dsimp only at HZ
  have hF : PrV (prM 7 (bl s)) s pz bz (nxM ⟨7, 2000, 1, v4, 0, 0, hz, z⟩) := by
    rw [pr_7]
    exact PrV.stepT rfl HK1.out.1 (fun q => (fun q => (fun q => HKZ.out.2 (HK4.out.2 q)) (HK3.out.2 q)) (HK2.out.2 q)) (fun h1 => PrV.stepT h1 HK2.out.1 (fun q => (fun q => HKZ.out.2 (HK4.out.2 q)) (HK3.out.2 q)) (fun h2 => PrV.stepT h2 HK3.out.1 (fun q => HKZ.out.2 (HK4.out.2 q)) (fun h3 => PrV.stepV (HK4.out.1 h3) HKZ.out.2 (fun h4 => PrV.last (HKZ.out.1 h4)))))
  have HF : Hid _ := hF
  clear hF HKZ HK1 HP1 HK2 HP2 HK3 HP3 HK4 HP4 HP0
  obtain ⟨g0, g1, g2, _⟩ := HZ.out.x.cells
  obtain ⟨⟨c0, c1, c2, c3, c4, c5, c6, c7⟩, f0, f1, f2, f3, f4, f5, f6, f7⟩ := blk8 HZ.out.y
  obtain ⟨⟨e0, e1, e2, e3, e4, e5, e6, e7⟩, i0, i1, i2, i3, i4, i5, i6, i7⟩ := blk8 HZ.out.r
  cases bz
  · by_cases hlt : pz < s.size
    · have d1 : decide ((pz : Int) < (s.size : Int)) = true := by simp; omega
      go_wp2_with fail
      go_quiet (fail)
      go_wp2_with fail
      obtain ⟨U, hU, hx, hb, _⟩ := put8 (X := w.heap.size) (PZ.drewN HZ.out nq).hb (Nat.le_refl _) (PZ.drewN HZ.out nq).r (.int .i64 0) (.int .i64 0) (.int .i64 0) (.int .i64 0) (.int .i64 0) (.int .i64 0) (.bool false) (.int .i64 0)
      rw [hU]
      obtain ⟨⟨k0, k1, k2, k3, k4, k5, k6, k7⟩, _⟩ := blk8 hx
      exact bodyPost_ret (v := .tuple #[moV z0, .int .i64 2]) (by simp [results, Try.results11, go_sem, k0, k1, k2, k3, k4, k5, k6, k7]) rfl (PaQ.no (HF.out.no (.inr hlt)) hb)
    · have d1 : decide ((pz : Int) < (s.size : Int)) = false := by simp; omega
      go_wp2_with fail
      go_quiet (fail)
      go_wp2_with fail
      obtain ⟨U, hU, hx, hb, _⟩ := put8 (X := w.heap.size) (PZ.drewN HZ.out nq).hb (Nat.le_refl _) (PZ.drewN HZ.out nq).r (.int .i64 7) (.int .i64 2000) (.int .i64 1) (.int .i64 v4) (.int .i64 0) (.int .i64 0) (.bool hz) (.int .i64 z)
      rw [hU]
      obtain ⟨⟨k0, k1, k2, k3, k4, k5, k6, k7⟩, _⟩ := blk8 hx
      exact bodyPost_ret (v := .tuple #[moV ⟨7, 2000, 1, v4, 0, 0, hz, z⟩, .int .i64 0]) (by simp [results, Try.results11, go_sem, k0, k1, k2, k3, k4, k5, k6, k7]) rfl (PaQ.yes (by rw [HF.out.ok hlt, nx_not (by simp)]) hb)
  · go_wp2_with fail
    go_quiet (fail)
    go_wp2_with fail
    obtain ⟨U, hU, hx, hb, _⟩ := put8 (X := w.heap.size) (PZ.drewN HZ.out nq).hb (Nat.le_refl _) (PZ.drewN HZ.out nq).r (.int .i64 0) (.int .i64 0) (.int .i64 0) (.int .i64 0) (.int .i64 0) (.int .i64 0) (.bool false) (.int .i64 0)
    rw [hU]
    obtain ⟨⟨k0, k1, k2, k3, k4, k5, k6, k7⟩, _⟩ := blk8 hx
    exact bodyPost_ret (v := .tuple #[moV z0, .int .i64 2]) (by simp [results, Try.results11, go_sem, k0, k1, k2, k3, k4, k5, k6, k7]) rfl (PaQ.no (HF.out.no (.inl rfl)) hb)
end Go.Proofs.Ytijcbgjlofcdfaa
namespace Go.Proofs.Ytijcbgjlofcdfaa
open Go.RowKit
set_option linter.unusedVariables false

set_option maxRecDepth 8000 in
set_option maxHeartbeats 4000000 in
theorem parse_r8 (s : ByteArray) (w : World) (hs : s.size ≤ maxLen) : Calls Try.prog 11 #[.int .i64 8, .string s] w fun e w' => PaQ (prM 8 (bl s)) w e w' := by
  have hnum := hs
  unfold maxLen at hnum
  go_enter Try.func11, Try.ntmps11
  go_upto_region 13 with fail
  obtain ⟨W0, hW0, HP0'⟩ := PZ.ex (PZ.init w s 8)
  rw [hW0]
  have HP0 : Hid _ := HP0'
  clear hW0 HP0'
  go_wp2_with fail
  refine Calls.mono (take_r (w.heap.size + 1) s 0 false 45 _ HP0.out.x hs HP0.out.le) ?_
  rintro e w1 ⟨p1, b1, rfl, r1, k1⟩
  have HP1 : Hid _ := HP0.out.rp r1
  have HK1 : Hid _ := And.intro k1 r1.st
  clear r1 k1
  go_wp2_with fail
  refine Calls.mono (take_r (w.heap.size + 1) s p1 b1 45 _ HP1.out.x hs HP1.out.le) ?_
  rintro e w2 ⟨p2, b2, rfl, r2, k2⟩
  have HP2 : Hid _ := HP1.out.rp r2
  have HK2 : Hid _ := And.intro k2 r2.st
  clear r2 k2
  go_wp2_with fail
  refine Calls.mono (in_r (w.heap.size + 1) s p2 b2 1 12 _ HP2.out.x hs HP2.out.le) ?_
  rintro e w3 ⟨p3, b3, v3, rfl, r3, v3l, v3h, k3⟩
  have HP3' : Hid _ := HP2.out.rp r3
  have HK3 : Hid _ := And.intro k3 r3.st
  clear r3 k3
  obtain ⟨⟨c0, c1, c2, c3, c4, c5, c6, c7⟩, f0, f1, f2, f3, f4, f5, f6, f7⟩ := blk8 HP3'.out.y
  go_upto_region 20 with fail
  obtain ⟨W3, hW3, HQ3⟩ := PZ.ex (PZ.setY HP3'.out 2 (.int .i64 v3) (a' := ⟨8, 2000, v3, 1, 0, 0, false, 0⟩) rfl)
  rw [hW3]
  have HP3 : Hid _ := HQ3
  clear hW3 HQ3 HP3' c0 c1 c2 c3 c4 c5 c6 c7 f0 f1 f2 f3 f4 f5 f6 f7
  go_wp2_with fail
  refine Calls.mono (zone_r (w.heap.size + 1) (w.heap.size + 1 + 1) s p3 b3 8 2000 v3 1 0 0 _ HP3.out.zs hs) ?_
  rintro e wz ⟨pz, bz, hz, z, rfl, zz, stz, zl, zh, kz⟩
  have HZ : Hid _ := HP3.out.ofz zz
  have HKZ : Hid _ := And.intro kz stz
  clear zz kz stz
  dsimp only at HZ
  have hF : PrV (prM 8 (bl s)) s pz bz (nxM ⟨8, 2000, v3, 1, 0, 0, hz, z⟩) := by
    rw [pr_8]
    exact PrV.stepT rfl HK1.out.1 (fun q => (fun q => HKZ.out.2 (HK3.out.2 q)) (HK2.out.2 q)) (fun h1 => PrV.stepT h1 HK2.out.1 (fun q => HKZ.out.2 (HK3.out.2 q)) (fun h2 => PrV.stepV (HK3.out.1 h2) HKZ.out.2 (fun h3 => PrV.last (HKZ.out.1 h3))))
  have HF : Hid _ := hF
  clear hF HKZ HK1 HP1 HK2 HP2 HK3 HP3 HP0
  obtain ⟨g0, g1, g2, _⟩ := HZ.out.x.cells
  obtain ⟨⟨c0, c1, c2, c3, c4, c5, c6, c7⟩, f0, f1, f2, f3, f4, f5, f6, f7⟩ := blk8 HZ.out.y
  obtain ⟨⟨e0, e1, e2, e3, e4, e5, e6, e7⟩, i0, i1, i2, i3, i4, i5, i6, i7⟩ := blk8 HZ.out.r
  cases bz
  · by_cases hlt : pz < s.size
    · have d1 : decide ((pz : Int) < (s.size : Int)) = true := by simp; omega
      go_wp2_with fail
      go_quiet (fail)
      go_wp2_with fail
      obtain ⟨U, hU, hx, hb, _⟩ := put8 (X := w.heap.size) (PZ.drewN HZ.out nq).hb (Nat.le_refl _) (PZ.drewN HZ.out nq).r (.int .i64 0) (.int .i64 0) (.int .i64 0) (.int .i64 0) (.int .i64 0) (.int .i64 0) (.bool false) (.int .i64 0)
      rw [hU]
      obtain ⟨⟨k0, k1, k2, k3, k4, k5, k6, k7⟩, _⟩ := blk8 hx
      exact bodyPost_ret (v := .tuple #[moV z0, .int .i64 2]) (by simp [results, Try.results11, go_sem, k0, k1, k2, k3, k4, k5, k6, k7]) rfl (PaQ.no (HF.out.no (.inr hlt)) hb)
    · have d1 : decide ((pz : Int) < (s.size : Int)) = false := by simp; omega
      go_wp2_with fail
      go_quiet (fail)
      go_wp2_with fail
      obtain ⟨U, hU, hx, hb, _⟩ := put8 (X := w.heap.size) (PZ.drewN HZ.out nq).hb (Nat.le_refl _) (PZ.drewN HZ.out nq).r (.int .i64 8) (.int .i64 2000) (.int .i64 v3) (.int .i64 1) (.int .i64 0) (.int .i64 0) (.bool hz) (.int .i64 z)
      rw [hU]
      obtain ⟨⟨k0, k1, k2, k3, k4, k5, k6, k7⟩, _⟩ := blk8 hx
      exact bodyPost_ret (v := .tuple #[moV ⟨8, 2000, v3, 1, 0, 0, hz, z⟩, .int .i64 0]) (by simp [results, Try.results11, go_sem, k0, k1, k2, k3, k4, k5, k6, k7]) rfl (PaQ.yes (by rw [HF.out.ok hlt, nx_not (by simp)]) hb)
  · go_wp2_with fail
    go_quiet (fail)
    go_wp2_with fail
    obtain ⟨U, hU, hx, hb, _⟩ := put8 (X := w.heap.size) (PZ.drewN HZ.out nq).hb (Nat.le_refl _) (PZ.drewN HZ.out nq).r (.int .i64 0) (.int .i64 0) (.int .i64 0) (.int .i64 0) (.int .i64 0) (.int .i64 0) (.bool false) (.int .i64 0)
    rw [hU]
    obtain ⟨⟨k0, k1, k2, k3, k4, k5, k6, k7⟩, _⟩ := blk8 hx
    exact bodyPost_ret (v := .tuple #[moV z0, .int .i64 2]) (by simp [results, Try.results11, go_sem, k0, k1, k2, k3, k4, k5, k6, k7]) rfl (PaQ.no (HF.out.no (.inl rfl)) hb)
end Go.Proofs.Ytijcbgjlofcdfaa
