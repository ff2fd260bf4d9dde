/- DateZones: the walk. -/
import Derived.Test.YtijcbgjlofcdfaaDz2
namespace Go.Proofs.Ytijcbgjlofcdfaa
open Go.RowKit
set_option linter.unusedVariables false

/-- A few seconds on: the year is near. -/
theorem add_near {a : Mo} (h : MoOk a) (y0 : -100000 < a.y) (y1 : a.y < 100000) {x : Int} (x0 : -1000000 < x) (x1 : x < 1000000) : -3000000000 < (addM a ⟨0, x, 0⟩).y ∧ (addM a ⟨0, x, 0⟩).y < 3000000000 := by
  obtain ⟨e1, e2, e3, e4⟩ := add_same (s := x) (n := 0) h.y h.m0 h.m1 h.d1
  obtain ⟨hy, m0, m1, d0, d1, s0, s1, n0, n1⟩ := h
  have hl := (len_in (l := lnY a.y) m0 m1).2
  have hT : -100 < addT a ⟨0, x, 0⟩ / 86400 ∧ addT a ⟨0, x, 0⟩ / 86400 < 100 := by unfold addT; dsimp only; omega
  have hN : -1950000000000 < addN a ⟨0, x, 0⟩ ∧ addN a ⟨0, x, 0⟩ < 1950000000000 := by
    unfold addN
    rw [e4, e2, e3]
    unfold daysS dayN
    have hl2 : -100001 < lnY a.y ∧ lnY a.y < 100001 := by unfold lnY; split <;> omega
    rw [show (a.m - 1) / 12 = 0 by omega, Int.add_zero, Nat.add_sub_cancel]
    have := cum_nonneg (lnY a.y) ((a.m - 1) % 12).toNat
    have := cum_le (lnY a.y) (show ((a.m - 1) % 12).toNat ≤ 12 by omega)
    have ha : -40000000 < ahd (lnY a.y) ∧ ahd (lnY a.y) < 40000000 := by unfold ahd; omega
    have hb : ahd 2000 = 730485 := by decide
    omega
  have hN2 : -100000000 < addN a ⟨0, x, 0⟩ ∧ addN a ⟨0, x, 0⟩ < 100000000 := by
    unfold addN
    rw [e4, e2, e3]
    unfold daysS dayN
    have hl2 : -100001 < lnY a.y ∧ lnY a.y < 100001 := by unfold lnY; split <;> omega
    rw [show (a.m - 1) / 12 = 0 by omega, Int.add_zero, Nat.add_sub_cancel]
    have := cum_nonneg (lnY a.y) ((a.m - 1) % 12).toNat
    have := cum_le (lnY a.y) (show ((a.m - 1) % 12).toNat ≤ 12 by omega)
    have ha : -40000000 < ahd (lnY a.y) ∧ ahd (lnY a.y) < 40000000 := by unfold ahd; omega
    have hb : ahd 2000 = 730485 := by decide
    omega
  have hc : -1000000 < civL (addN a ⟨0, x, 0⟩) ∧ civL (addN a ⟨0, x, 0⟩) < 1000000 := by
    obtain ⟨p, q⟩ := (civ_is (addN a ⟨0, x, 0⟩)).within
    have hb : ahd 2000 = 730485 := by decide
    rw [hb] at p q
    generalize civL (addN a ⟨0, x, 0⟩) = l at *
    generalize addN a ⟨0, x, 0⟩ = n at *
    unfold ahd at p q
    omega
  unfold addM bkY
  dsimp only
  split <;> omega
theorem MoB.z {k y m d s n z z' : Int} {h h' : Bool} (b : MoB ⟨k, y, m, d, s, n, h, z⟩) : MoB ⟨k, y, m, d, s, n, h', z'⟩ := ⟨b.1, b.2, b.3, b.4, b.5, b.6, b.7, b.8, b.9, b.10⟩
set_option maxRecDepth 8000 in
set_option maxHeartbeats 8000000 in
theorem zones_s (year month day sec zone : Int) (w : World) : Calls Try.prog 7 #[.int .i64 year, .int .i64 month, .int .i64 day, .int .i64 sec, .int .i64 zone] w fun e w' => e = .returned (.bool true) ∧ Below w.heap.size w w' := by
  have HK : Hid _ := And.intro (fun W : World => known_p W) trivial
  by_cases c1 : year < 1000
  · go_enter Try.func7, Try.ntmps7
    go_wp2_with fail
    refine Calls.mono (HK.out.1 _) ?_
    rintro e w1 ⟨rfl, hb1⟩
    go_wp2_with fail
    go_ret
    exact ⟨rfl, hb1⟩
  · by_cases c2 : 9000 < year
    · go_enter Try.func7, Try.ntmps7
      go_wp2_with fail
      refine Calls.mono (HK.out.1 _) ?_
      rintro e w1 ⟨rfl, hb1⟩
      go_wp2_with fail
      go_ret
      exact ⟨rfl, hb1⟩
    · by_cases c3 : month < 1
      · go_enter Try.func7, Try.ntmps7
        go_wp2_with fail
        refine Calls.mono (HK.out.1 _) ?_
        rintro e w1 ⟨rfl, hb1⟩
        go_wp2_with fail
        go_ret
        exact ⟨rfl, hb1⟩
      · by_cases c4 : 12 < month
        · go_enter Try.func7, Try.ntmps7
          go_wp2_with fail
          refine Calls.mono (HK.out.1 _) ?_
          rintro e w1 ⟨rfl, hb1⟩
          go_wp2_with fail
          go_ret
          exact ⟨rfl, hb1⟩
        · by_cases c5 : day < 1
          · go_enter Try.func7, Try.ntmps7
            go_wp2_with fail
            refine Calls.mono (HK.out.1 _) ?_
            rintro e w1 ⟨rfl, hb1⟩
            go_wp2_with fail
            go_ret
            exact ⟨rfl, hb1⟩
          · by_cases c6 : 28 < day
            · go_enter Try.func7, Try.ntmps7
              go_wp2_with fail
              refine Calls.mono (HK.out.1 _) ?_
              rintro e w1 ⟨rfl, hb1⟩
              go_wp2_with fail
              go_ret
              exact ⟨rfl, hb1⟩
            · by_cases c7 : sec < 0
              · go_enter Try.func7, Try.ntmps7
                go_wp2_with fail
                refine Calls.mono (HK.out.1 _) ?_
                rintro e w1 ⟨rfl, hb1⟩
                go_wp2_with fail
                go_ret
                exact ⟨rfl, hb1⟩
              · by_cases c8 : 86399 < sec
                · go_enter Try.func7, Try.ntmps7
                  go_wp2_with fail
                  refine Calls.mono (HK.out.1 _) ?_
                  rintro e w1 ⟨rfl, hb1⟩
                  go_wp2_with fail
                  go_ret
                  exact ⟨rfl, hb1⟩
                · by_cases c9 : zone < -840
                  · go_enter Try.func7, Try.ntmps7
                    go_wp2_with fail
                    refine Calls.mono (HK.out.1 _) ?_
                    rintro e w1 ⟨rfl, hb1⟩
                    go_wp2_with fail
                    go_ret
                    exact ⟨rfl, hb1⟩
                  · by_cases c10 : 840 < zone
                    · go_enter Try.func7, Try.ntmps7
                      go_wp2_with fail
                      refine Calls.mono (HK.out.1 _) ?_
                      rintro e w1 ⟨rfl, hb1⟩
                      go_wp2_with fail
                      go_ret
                      exact ⟨rfl, hb1⟩
                    · have hlen := (len_in (l := lnY year) (m := month) (by omega) (by omega)).1
                      have hok : MoOk ⟨1, year, month, day, sec, 0, true, 0⟩ := ⟨by dsimp only; omega, by dsimp only; omega, by dsimp only; omega, by dsimp only; omega, by dsimp only; omega, by dsimp only; omega, by dsimp only; omega, by simp, by simp⟩
                      have hT1 : SpT ⟨0, 60 * zone, 0⟩ := ⟨by simp, by simp, by dsimp only; omega, by dsimp only; omega, by simp, by simp⟩
                      have hT2 : SpT ⟨0, 0, 1⟩ := ⟨by simp, by simp, by simp, by simp, by simp, by simp⟩
                      have hmb := hok.b (by dsimp only; omega) (by dsimp only; omega)
                      have hmL : MoL ⟨1, year, month, day, sec, 0, true, 0⟩ := ⟨hmb, by simp, by simp, by simp, by simp⟩
                      have hA := add_L (p := ⟨0, 60 * zone, 0⟩) hok (by dsimp only; omega) (by dsimp only; omega) (by simp) (by simp) hT1
                      have hAok := MoOk.add ⟨1, year, month, day, sec, 0, true, 0⟩ ⟨0, 60 * zone, 0⟩
                      have hAy := add_near hok (show -100000 < (⟨1, year, month, day, sec, 0, true, 0⟩ : Mo).y by dsimp only; omega) (show (⟨1, year, month, day, sec, 0, true, 0⟩ : Mo).y < 100000 by dsimp only; omega) (show -1000000 < 60 * zone by omega) (show 60 * zone < 1000000 by omega)
                      have hAn : (addM ⟨1, year, month, day, sec, 0, true, 0⟩ ⟨0, 60 * zone, 0⟩).n = 0 := by unfold addM; simp
                      have hAk : (addM ⟨1, year, month, day, sec, 0, true, 0⟩ ⟨0, 60 * zone, 0⟩).k = 1 := rfl
                      have hAh : (addM ⟨1, year, month, day, sec, 0, true, 0⟩ ⟨0, 60 * zone, 0⟩).hz = true := rfl
                      have hAz : (addM ⟨1, year, month, day, sec, 0, true, 0⟩ ⟨0, 60 * zone, 0⟩).z = 0 := rfl
                      have r1 := zone_same hok rfl rfl rfl zone
                      have r2 := zone_none hok rfl rfl rfl zone (by omega) (by omega)
                      have q1 := fun W : World => add_p ⟨1, year, month, day, sec, 0, true, 0⟩ ⟨0, 60 * zone, 0⟩ W hmb hT1.b
                      generalize addM ⟨1, year, month, day, sec, 0, true, 0⟩ ⟨0, 60 * zone, 0⟩ = A at *
                      obtain ⟨Ak, Ay, Am, Ad, As, An, Ah, Az⟩ := A
                      dsimp only at *
                      subst hAk hAn hAh hAz
                      have hNok : MoOk ⟨1, Ay, Am, Ad, As, 0, true, zone⟩ := ⟨hAok.y, hAok.m0, hAok.m1, hAok.d0, hAok.d1, hAok.s0, hAok.s1, by simp, by simp⟩
                      have hNL : MoL ⟨1, Ay, Am, Ad, As, 0, true, zone⟩ := ⟨hA.b.z, by simp, by simp, by dsimp only; omega, by dsimp only; omega⟩
                      have hOL : MoL ⟨1, Ay, Am, Ad, As, 0, false, 0⟩ := ⟨hA.b.z, by simp, by simp, by simp, by simp⟩
                      have hLL := add_L (p := ⟨0, 0, 1⟩) hNok (by dsimp only; omega) (by dsimp only; omega) (by dsimp only; omega) (by dsimp only; omega) hT2
                      have q2 := fun W : World => add_p ⟨1, Ay, Am, Ad, As, 0, true, zone⟩ ⟨0, 0, 1⟩ W hA.b.z hT2.b
                      have r3 := later_less hNok rfl
                      have q3 := fun W : World => cmp_p ⟨1, year, month, day, sec, 0, true, 0⟩ ⟨1, Ay, Am, Ad, As, 0, true, zone⟩ W hmL hNL
                      have q4 := fun W : World => cmp_p ⟨1, year, month, day, sec, 0, true, 0⟩ ⟨1, Ay, Am, Ad, As, 0, false, 0⟩ W hmL hOL
                      have q5 := fun W : World => cmp_p ⟨1, Ay, Am, Ad, As, 0, true, zone⟩ _ W hNL hLL
                      have q6 := fun W : World => cmp_p ⟨1, year, month, day, sec, 0, true, 0⟩ ⟨1, year, month, day, sec, 0, true, 0⟩ W hmL hmL
                      rw [r1] at q3
                      rw [r2] at q4
                      rw [r3] at q5
                      rw [cmp_self] at q6
                      have q7 := fun W : World => text_p year month day sec W (by omega) (by omega) (by omega) (by omega) (by omega) (by omega) (by omega) (by omega)
                      have q8 := fun (s : ByteArray) (hs : bl s = ztB year month day sec) (W : World) => parse_zt s W year month day sec hs (by omega) (by omega) (by omega) (by omega) (by omega) (by omega) (by omega) (by omega)
                      generalize addM ⟨1, Ay, Am, Ad, As, 0, true, zone⟩ ⟨0, 0, 1⟩ = LT at *
                      obtain ⟨Lk, Ly, Lm, Ld, Ls, Ln, Lh, Lz⟩ := LT
                      have HC : Hid _ := And.intro q1 (And.intro q2 (And.intro q3 (And.intro q4 (And.intro q5 (And.intro q6 (And.intro q7 q8))))))
                      clear q1 q2 q3 q4 q5 q6 q7 q8 r1 r2 r3 hlen hok hT1 hT2 hmb hmL hA hAok hNok hNL hOL hLL hAy
                      have d1 : decide (year < 1000) = false := by simp; omega
                      have d2 : decide (9000 < year) = false := by simp; omega
                      have d3 : decide (month < 1) = false := by simp; omega
                      have d4 : decide (12 < month) = false := by simp; omega
                      have d5 : decide (day < 1) = false := by simp; omega
                      have d6 : decide (28 < day) = false := by simp; omega
                      have d7 : decide (sec < 0) = false := by simp; omega
                      have d8 : decide (86399 < sec) = false := by simp; omega
                      have d9 : decide (zone < -840) = false := by simp; omega
                      have d10 : decide (840 < zone) = false := by simp; omega
                      go_enter Try.func7, Try.ntmps7
                      go_wp2_with fail
                      refine Calls.mono (HK.out.1 _) ?_
                      rintro e w1 ⟨rfl, hb1⟩
                      have HB : Hid _ := hb1
                      have n1 := hb1.size
                      clear hb1
                      go_upto_region 6 with fail
                      obtain ⟨V0, hV0⟩ : ∃ V, w1.alloc (.cells (moC ⟨1, year, month, day, sec, 0, true, 0⟩) 24) = V := ⟨_, rfl⟩
                      rw [hV0]
                      have hbV : Below w1.heap.size w1 V0 := by rw [← hV0]; exact (Below.refl _ _).alloc (Nat.le_refl _) _
                      have x0 : V0.heap[w1.heap.size]? = some (.cells (moC ⟨1, year, month, day, sec, 0, true, 0⟩) 24 (0, 0)) := by rw [← hV0]; exact nw_heap _ _
                      clear hV0
                      have hstep : Below w1.heap.size w1 V0 := hbV
                      have HB : Hid (Below w.heap.size w V0) := HB.out.trans (hstep.mono HB.out.size)
                      clear hstep hbV
                      obtain ⟨⟨a0', a1', a2', a3', a4', a5', a6', a7'⟩, _⟩ := blk8 x0
                      go_wp2_with fail
                      refine Calls.mono (HC.out.1 _) ?_
                      rintro e w2 ⟨rfl, hb2⟩
                      clear a0' a1' a2' a3' a4' a5' a6' a7'
                      have n2 : w1.heap.size < w2.heap.size := Nat.lt_of_lt_of_le (lt_of x0) hb2.size
                      go_upto_region 7 with fail
                      obtain ⟨V1, hV1⟩ : ∃ V, w2.alloc (.cells (moC ⟨1, Ay, Am, Ad, As, 0, true, 0⟩) 24) = V := ⟨_, rfl⟩
                      rw [hV1]
                      have hbV : Below w2.heap.size w2 V1 := by rw [← hV1]; exact (Below.refl _ _).alloc (Nat.le_refl _) _
                      have x1 : V1.heap[w2.heap.size]? = some (.cells (moC ⟨1, Ay, Am, Ad, As, 0, true, 0⟩) 24 (0, 0)) := by rw [← hV1]; exact nw_heap _ _
                      clear hV1
                      have hstep : Below V0.heap.size V0 V1 := bl_step hb2 hbV
                      replace x0 := (hstep.block _ (lt_of x0)).trans x0
                      have HB : Hid (Below w.heap.size w V1) := HB.out.trans (hstep.mono HB.out.size)
                      clear hstep hbV
                      clear hb2
                      obtain ⟨⟨_, _, _, _, _, _, _, _⟩, _, _, _, _, _, _, _, f7'⟩ := blk8 x1
                      go_upto_region 8 with fail
                      obtain ⟨U1, hU1⟩ : ∃ V, V1.setCell ⟨w2.heap.size, 7, none⟩ (.int .i64 zone) = V := ⟨_, rfl⟩
                      rw [hU1]
                      have hF : Fro (fun i => i = w2.heap.size) V1 U1 := by rw [← hU1]; exact (Fro.refl (fun i => i = w2.heap.size) V1).set (Or.inl rfl) _
                      replace x1 : U1.heap[w2.heap.size]? = some (.cells (moC ⟨1, Ay, Am, Ad, As, 0, true, zone⟩) 24 (0, 0)) := by rw [← hU1]; exact bset x1 _
                      replace x0 := hF.at x0 (by omega)
                      have HB : Hid (Below w.heap.size w U1) := HB.out.trans (hF.toBelow HB.out.size (fun i hi h => by omega))
                      clear hF hU1 f7'
                      obtain ⟨⟨a0', a1', a2', a3', a4', a5', a6', a7'⟩, _⟩ := blk8 x1
                      have n3 : w2.heap.size < U1.heap.size := lt_of x1
                      go_upto_region 9 with fail
                      obtain ⟨V2, hV2⟩ : ∃ V, U1.alloc (.cells (moC ⟨1, Ay, Am, Ad, As, 0, true, zone⟩) 24) = V := ⟨_, rfl⟩
                      rw [hV2]
                      have hbV : Below U1.heap.size U1 V2 := by rw [← hV2]; exact (Below.refl _ _).alloc (Nat.le_refl _) _
                      have x2 : V2.heap[U1.heap.size]? = some (.cells (moC ⟨1, Ay, Am, Ad, As, 0, true, zone⟩) 24 (0, 0)) := by rw [← hV2]; exact nw_heap _ _
                      clear hV2
                      have hstep : Below U1.heap.size U1 V2 := hbV
                      replace x0 := (hstep.block _ (lt_of x0)).trans x0
                      replace x1 := (hstep.block _ (lt_of x1)).trans x1
                      have HB : Hid (Below w.heap.size w V2) := HB.out.trans (hstep.mono HB.out.size)
                      clear hstep hbV
                      clear a0' a1' a2' a3' a4' a5' a6' a7'
                      obtain ⟨⟨_, _, _, _, _, _, _, _⟩, _, _, _, _, _, _, f6', f7'⟩ := blk8 x2
                      go_upto_region 10 with fail
                      obtain ⟨U2, hU2⟩ : ∃ V, V2.setCell ⟨U1.heap.size, 6, none⟩ (.bool false) = V := ⟨_, rfl⟩
                      rw [hU2]
                      have hF : Fro (fun i => i = U1.heap.size) V2 U2 := by rw [← hU2]; exact (Fro.refl (fun i => i = U1.heap.size) V2).set (Or.inl rfl) _
                      replace x2 : U2.heap[U1.heap.size]? = some (.cells (moC ⟨1, Ay, Am, Ad, As, 0, false, zone⟩) 24 (0, 0)) := by rw [← hU2]; exact bset x2 _
                      replace x0 := hF.at x0 (by omega)
                      replace x1 := hF.at x1 (by omega)
                      have HB : Hid (Below w.heap.size w U2) := HB.out.trans (hF.toBelow HB.out.size (fun i hi h => by omega))
                      clear hF hU2 f6' f7'
                      obtain ⟨⟨_, _, _, _, _, _, _, _⟩, _, _, _, _, _, _, _, f7'⟩ := blk8 x2
                      go_upto_region 11 with fail
                      obtain ⟨U3, hU3⟩ : ∃ V, U2.setCell ⟨U1.heap.size, 7, none⟩ (.int .i64 0) = V := ⟨_, rfl⟩
                      rw [hU3]
                      have hF : Fro (fun i => i = U1.heap.size) U2 U3 := by rw [← hU3]; exact (Fro.refl (fun i => i = U1.heap.size) U2).set (Or.inl rfl) _
                      replace x2 : U3.heap[U1.heap.size]? = some (.cells (moC ⟨1, Ay, Am, Ad, As, 0, false, 0⟩) 24 (0, 0)) := by rw [← hU3]; exact bset x2 _
                      replace x0 := hF.at x0 (by omega)
                      replace x1 := hF.at x1 (by omega)
                      have HB : Hid (Below w.heap.size w U3) := HB.out.trans (hF.toBelow HB.out.size (fun i hi h => by omega))
                      clear hF hU3 f7'
                      obtain ⟨⟨a0', a1', a2', a3', a4', a5', a6', a7'⟩, _⟩ := blk8 x1
                      go_wp2_with fail
                      refine Calls.mono (HC.out.2.1 _) ?_
                      rintro e w3 ⟨rfl, hb3⟩
                      clear a0' a1' a2' a3' a4' a5' a6' a7'
                      go_upto_region 12 with fail
                      obtain ⟨V3, hV3⟩ : ∃ V, w3.alloc (.cells (moC ⟨Lk, Ly, Lm, Ld, Ls, Ln, Lh, Lz⟩) 24) = V := ⟨_, rfl⟩
                      rw [hV3]
                      have hbV : Below w3.heap.size w3 V3 := by rw [← hV3]; exact (Below.refl _ _).alloc (Nat.le_refl _) _
                      have x3 : V3.heap[w3.heap.size]? = some (.cells (moC ⟨Lk, Ly, Lm, Ld, Ls, Ln, Lh, Lz⟩) 24 (0, 0)) := by rw [← hV3]; exact nw_heap _ _
                      clear hV3
                      have hstep : Below U3.heap.size U3 V3 := bl_step hb3 hbV
                      replace x0 := (hstep.block _ (lt_of x0)).trans x0
                      replace x1 := (hstep.block _ (lt_of x1)).trans x1
                      replace x2 := (hstep.block _ (lt_of x2)).trans x2
                      have HB : Hid (Below w.heap.size w V3) := HB.out.trans (hstep.mono HB.out.size)
                      clear hstep hbV
                      clear hb3
                      obtain ⟨⟨a0', a1', a2', a3', a4', a5', a6', a7'⟩, _⟩ := blk8 x0
                      go_wp2_with fail
                      refine Calls.mono (HC.out.2.2.2.2.2.2.1 _) ?_
                      rintro e w4 ⟨txt, rfl, htx, hb4⟩
                      clear a0' a1' a2' a3' a4' a5' a6' a7'
                      replace x0 := (hb4.block _ (lt_of x0)).trans x0
                      replace x1 := (hb4.block _ (lt_of x1)).trans x1
                      replace x2 := (hb4.block _ (lt_of x2)).trans x2
                      replace x3 := (hb4.block _ (lt_of x3)).trans x3
                      have HB : Hid (Below w.heap.size w w4) := HB.out.trans (hb4.mono HB.out.size)
                      clear hb4
                      have HT : Hid _ := htx
                      clear htx
                      go_wp2_with fail
                      refine Calls.mono (HC.out.2.2.2.2.2.2.2 txt HT.out _) ?_
                      rintro e w5 ⟨rfl, hb5⟩
                      go_upto_region 13 with fail
                      obtain ⟨V4, hV4⟩ : ∃ V, w5.alloc (.cells (moC ⟨1, year, month, day, sec, 0, true, 0⟩) 24) = V := ⟨_, rfl⟩
                      rw [hV4]
                      have hbV : Below w5.heap.size w5 V4 := by rw [← hV4]; exact (Below.refl _ _).alloc (Nat.le_refl _) _
                      have x4 : V4.heap[w5.heap.size]? = some (.cells (moC ⟨1, year, month, day, sec, 0, true, 0⟩) 24 (0, 0)) := by rw [← hV4]; exact nw_heap _ _
                      clear hV4
                      have hstep : Below w4.heap.size w4 V4 := bl_step hb5 hbV
                      replace x0 := (hstep.block _ (lt_of x0)).trans x0
                      replace x1 := (hstep.block _ (lt_of x1)).trans x1
                      replace x2 := (hstep.block _ (lt_of x2)).trans x2
                      replace x3 := (hstep.block _ (lt_of x3)).trans x3
                      have HB : Hid (Below w.heap.size w V4) := HB.out.trans (hstep.mono HB.out.size)
                      clear hstep hbV
                      clear hb5
                      obtain ⟨⟨a0', a1', a2', a3', a4', a5', a6', a7'⟩, _⟩ := blk8 x0
                      obtain ⟨⟨b0', b1', b2', b3', b4', b5', b6', b7'⟩, _⟩ := blk8 x1
                      go_wp2_with fail
                      refine Calls.mono (HC.out.2.2.1 _) ?_
                      rintro e w6 ⟨rfl, hb6⟩
                      clear a0' a1' a2' a3' a4' a5' a6' a7'
                      clear b0' b1' b2' b3' b4' b5' b6' b7'
                      replace x0 := (hb6.block _ (lt_of x0)).trans x0
                      replace x1 := (hb6.block _ (lt_of x1)).trans x1
                      replace x2 := (hb6.block _ (lt_of x2)).trans x2
                      replace x3 := (hb6.block _ (lt_of x3)).trans x3
                      replace x4 := (hb6.block _ (lt_of x4)).trans x4
                      have HB : Hid (Below w.heap.size w w6) := HB.out.trans (hb6.mono HB.out.size)
                      clear hb6
                      obtain ⟨⟨a0', a1', a2', a3', a4', a5', a6', a7'⟩, _⟩ := blk8 x0
                      obtain ⟨⟨b0', b1', b2', b3', b4', b5', b6', b7'⟩, _⟩ := blk8 x2
                      go_wp2_with fail
                      refine Calls.mono (HC.out.2.2.2.1 _) ?_
                      rintro e w7 ⟨rfl, hb7⟩
                      clear a0' a1' a2' a3' a4' a5' a6' a7'
                      clear b0' b1' b2' b3' b4' b5' b6' b7'
                      replace x0 := (hb7.block _ (lt_of x0)).trans x0
                      replace x1 := (hb7.block _ (lt_of x1)).trans x1
                      replace x2 := (hb7.block _ (lt_of x2)).trans x2
                      replace x3 := (hb7.block _ (lt_of x3)).trans x3
                      replace x4 := (hb7.block _ (lt_of x4)).trans x4
                      have HB : Hid (Below w.heap.size w w7) := HB.out.trans (hb7.mono HB.out.size)
                      clear hb7
                      obtain ⟨⟨a0', a1', a2', a3', a4', a5', a6', a7'⟩, _⟩ := blk8 x1
                      obtain ⟨⟨b0', b1', b2', b3', b4', b5', b6', b7'⟩, _⟩ := blk8 x3
                      go_wp2_with fail
                      refine Calls.mono (HC.out.2.2.2.2.1 _) ?_
                      rintro e w8 ⟨rfl, hb8⟩
                      clear a0' a1' a2' a3' a4' a5' a6' a7'
                      clear b0' b1' b2' b3' b4' b5' b6' b7'
                      replace x0 := (hb8.block _ (lt_of x0)).trans x0
                      replace x1 := (hb8.block _ (lt_of x1)).trans x1
                      replace x2 := (hb8.block _ (lt_of x2)).trans x2
                      replace x3 := (hb8.block _ (lt_of x3)).trans x3
                      replace x4 := (hb8.block _ (lt_of x4)).trans x4
                      have HB : Hid (Below w.heap.size w w8) := HB.out.trans (hb8.mono HB.out.size)
                      clear hb8
                      obtain ⟨⟨a0', a1', a2', a3', a4', a5', a6', a7'⟩, _⟩ := blk8 x4
                      obtain ⟨⟨b0', b1', b2', b3', b4', b5', b6', b7'⟩, _⟩ := blk8 x0
                      go_wp2_with fail
                      refine Calls.mono (HC.out.2.2.2.2.2.1 _) ?_
                      rintro e w9 ⟨rfl, hb9⟩
                      clear a0' a1' a2' a3' a4' a5' a6' a7'
                      clear b0' b1' b2' b3' b4' b5' b6' b7'
                      replace x0 := (hb9.block _ (lt_of x0)).trans x0
                      replace x1 := (hb9.block _ (lt_of x1)).trans x1
                      replace x2 := (hb9.block _ (lt_of x2)).trans x2
                      replace x3 := (hb9.block _ (lt_of x3)).trans x3
                      replace x4 := (hb9.block _ (lt_of x4)).trans x4
                      have HB : Hid (Below w.heap.size w w9) := HB.out.trans (hb9.mono HB.out.size)
                      clear hb9
                      obtain ⟨⟨a0', a1', a2', a3', a4', a5', a6', a7'⟩, _⟩ := blk8 x4
                      obtain ⟨⟨b0', b1', b2', b3', b4', b5', b6', b7'⟩, _⟩ := blk8 x0
                      go_wp2_with fail
                      go_ret
                      exact ⟨rfl, HB.out⟩
end Go.Proofs.Ytijcbgjlofcdfaa
