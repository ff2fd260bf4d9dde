/- DateAdds: the walk. -/
import Derived.Test.YtijcbgjlofcdfaaW1
namespace Go.Proofs.Ytijcbgjlofcdfaa
open Go.RowKit
set_option linter.unusedVariables false

set_option maxRecDepth 8000 in
set_option maxHeartbeats 8000000 in
theorem adds_s (year month day sec days months : Int) (w : World) : Calls Try.prog 8 #[.int .i64 year, .int .i64 month, .int .i64 day, .int .i64 sec, .int .i64 days, .int .i64 months] w fun e w' => e = .returned (.bool true) ∧ Below w.heap.size w w' := by
  have HK : Hid _ := And.intro (fun W : World => known_p W) trivial
  by_cases c1 : year < -9000
  · go_enter Try.func8, Try.ntmps8
    go_wp2_with fail
    refine Calls.mono (HK.out.1 _) ?_
    rintro e w1 ⟨rfl, hb1⟩
    go_wp2_with fail
    go_ret
    exact ⟨rfl, hb1⟩
  · by_cases c2 : 9000 < year
    · go_enter Try.func8, Try.ntmps8
      go_wp2_with fail
      refine Calls.mono (HK.out.1 _) ?_
      rintro e w1 ⟨rfl, hb1⟩
      go_wp2_with fail
      go_ret
      exact ⟨rfl, hb1⟩
    · by_cases c3 : year = 0
      · go_enter Try.func8, Try.ntmps8
        go_wp2_with fail
        refine Calls.mono (HK.out.1 _) ?_
        rintro e w1 ⟨rfl, hb1⟩
        go_wp2_with fail
        go_ret
        exact ⟨rfl, hb1⟩
      · by_cases c4 : month < 1
        · go_enter Try.func8, Try.ntmps8
          go_wp2_with fail
          refine Calls.mono (HK.out.1 _) ?_
          rintro e w1 ⟨rfl, hb1⟩
          go_wp2_with fail
          go_ret
          exact ⟨rfl, hb1⟩
        · by_cases c5 : 12 < month
          · go_enter Try.func8, Try.ntmps8
            go_wp2_with fail
            refine Calls.mono (HK.out.1 _) ?_
            rintro e w1 ⟨rfl, hb1⟩
            go_wp2_with fail
            go_ret
            exact ⟨rfl, hb1⟩
          · by_cases c6 : day < 1
            · go_enter Try.func8, Try.ntmps8
              go_wp2_with fail
              refine Calls.mono (HK.out.1 _) ?_
              rintro e w1 ⟨rfl, hb1⟩
              go_wp2_with fail
              go_ret
              exact ⟨rfl, hb1⟩
            · by_cases c7 : 28 < day
              · go_enter Try.func8, Try.ntmps8
                go_wp2_with fail
                refine Calls.mono (HK.out.1 _) ?_
                rintro e w1 ⟨rfl, hb1⟩
                go_wp2_with fail
                go_ret
                exact ⟨rfl, hb1⟩
              · by_cases c8 : sec < 0
                · go_enter Try.func8, Try.ntmps8
                  go_wp2_with fail
                  refine Calls.mono (HK.out.1 _) ?_
                  rintro e w1 ⟨rfl, hb1⟩
                  go_wp2_with fail
                  go_ret
                  exact ⟨rfl, hb1⟩
                · by_cases c9 : 86399 < sec
                  · go_enter Try.func8, Try.ntmps8
                    go_wp2_with fail
                    refine Calls.mono (HK.out.1 _) ?_
                    rintro e w1 ⟨rfl, hb1⟩
                    go_wp2_with fail
                    go_ret
                    exact ⟨rfl, hb1⟩
                  · by_cases c10 : days < -1048576
                    · go_enter Try.func8, Try.ntmps8
                      go_wp2_with fail
                      refine Calls.mono (HK.out.1 _) ?_
                      rintro e w1 ⟨rfl, hb1⟩
                      go_wp2_with fail
                      go_ret
                      exact ⟨rfl, hb1⟩
                    · by_cases c11 : 1048576 < days
                      · go_enter Try.func8, Try.ntmps8
                        go_wp2_with fail
                        refine Calls.mono (HK.out.1 _) ?_
                        rintro e w1 ⟨rfl, hb1⟩
                        go_wp2_with fail
                        go_ret
                        exact ⟨rfl, hb1⟩
                      · by_cases c12 : months < -16384
                        · go_enter Try.func8, Try.ntmps8
                          go_wp2_with fail
                          refine Calls.mono (HK.out.1 _) ?_
                          rintro e w1 ⟨rfl, hb1⟩
                          go_wp2_with fail
                          go_ret
                          exact ⟨rfl, hb1⟩
                        · by_cases c13 : 16384 < months
                          · go_enter Try.func8, Try.ntmps8
                            go_wp2_with fail
                            refine Calls.mono (HK.out.1 _) ?_
                            rintro e w1 ⟨rfl, hb1⟩
                            go_wp2_with fail
                            go_ret
                            exact ⟨rfl, hb1⟩
                          · have hlen := (len_in (l := lnY year) (m := month) (by omega) (by omega)).1
                            have hok : MoOk ⟨1, year, month, day, sec, 0, false, 0⟩ := ⟨by simpa using c3, by dsimp only; omega, by dsimp only; omega, by dsimp only; omega, by dsimp only; omega, by dsimp only; omega, by dsimp only; omega, by simp, by simp⟩
                            have hT1 : SpT ⟨0, 86400 * days, 0⟩ := ⟨by simp, by simp, by dsimp only; omega, by dsimp only; omega, by simp, by simp⟩
                            have hT2 : SpT ⟨0, -(86400 * days), 0⟩ := ⟨by simp, by simp, by dsimp only; omega, by dsimp only; omega, by simp, by simp⟩
                            have hT3 : SpT ⟨months, 0, 0⟩ := ⟨by dsimp only; omega, by dsimp only; omega, by simp, by simp, by simp, by simp⟩
                            have hT4 : SpT ⟨-months, 0, 0⟩ := ⟨by dsimp only; omega, by dsimp only; omega, by simp, by simp, by simp, by simp⟩
                            have hmb := hok.b (by dsimp only; omega) (by dsimp only; omega)
                            have hA := add_L (p := ⟨0, 86400 * days, 0⟩) hok (by dsimp only; omega) (by dsimp only; omega) (by simp) (by simp) hT1
                            have hC := add_L (p := ⟨months, 0, 0⟩) hok (by dsimp only; omega) (by dsimp only; omega) (by simp) (by simp) hT3
                            have q1 := fun W : World => add_p ⟨1, year, month, day, sec, 0, false, 0⟩ ⟨0, 86400 * days, 0⟩ W hmb hT1.b
                            have q2 := fun W : World => add_p (addM ⟨1, year, month, day, sec, 0, false, 0⟩ ⟨0, 86400 * days, 0⟩) ⟨0, -(86400 * days), 0⟩ W hA.b hT2.b
                            rw [add_back hok] at q2
                            have q3 := fun W : World => add_p ⟨1, year, month, day, sec, 0, false, 0⟩ ⟨months, 0, 0⟩ W hmb hT3.b
                            have q4 := fun W : World => add_p (addM ⟨1, year, month, day, sec, 0, false, 0⟩ ⟨months, 0, 0⟩) ⟨-months, 0, 0⟩ W hC.b hT4.b
                            rw [months_back hok (by dsimp only; omega)] at q4
                            have e1 := add_days hok days
                            have e2 := days_months hok (show (⟨1, year, month, day, sec, 0, false, 0⟩ : Mo).d ≤ 28 by dsimp only; omega) months
                            have e3 := add_months hok (show (⟨1, year, month, day, sec, 0, false, 0⟩ : Mo).d ≤ 28 by dsimp only; omega) months
                            have e4 : (addM ⟨1, year, month, day, sec, 0, false, 0⟩ ⟨months, 0, 0⟩).d = day := by rw [e3]
                            have e5 : (addM ⟨1, year, month, day, sec, 0, false, 0⟩ ⟨months, 0, 0⟩).s = sec := by rw [e3]
                            clear e3
                            have q5 := fun W : World => days_p (addM ⟨1, year, month, day, sec, 0, false, 0⟩ ⟨0, 86400 * days, 0⟩).y (addM ⟨1, year, month, day, sec, 0, false, 0⟩ ⟨0, 86400 * days, 0⟩).m (addM ⟨1, year, month, day, sec, 0, false, 0⟩ ⟨0, 86400 * days, 0⟩).d W (by have := hA.b.y0; omega) (by have := hA.b.y1; omega) (by have := hA.b.m0; omega) (by have := hA.b.m1; omega) (by have := hA.b.d0; omega) (by have := hA.b.d1; omega)
                            have q6 := fun W : World => days_p year month day W (by omega) (by omega) (by omega) (by omega) (by omega) (by omega)
                            have q7 := fun W : World => days_p (addM ⟨1, year, month, day, sec, 0, false, 0⟩ ⟨months, 0, 0⟩).y (addM ⟨1, year, month, day, sec, 0, false, 0⟩ ⟨months, 0, 0⟩).m (addM ⟨1, year, month, day, sec, 0, false, 0⟩ ⟨months, 0, 0⟩).d W (by have := hC.b.y0; omega) (by have := hC.b.y1; omega) (by have := hC.b.m0; omega) (by have := hC.b.m1; omega) (by have := hC.b.d0; omega) (by have := hC.b.d1; omega)
                            have q8 := fun W : World => days_p year (month + months) day W (by omega) (by omega) (by omega) (by omega) (by omega) (by omega)
                            dsimp only at e1 e2
                            rw [e1.2.2] at q5
                            rw [e2] at q7
                            have b1 := days_bd (y := year) (m := month) (d := day) (by omega) (by omega) (by omega) (by omega) (by omega) (by omega)
                            have e6 := e1.1
                            clear e1 e2 hlen hT1 hT2 hT3 hT4 hA hC hmb hok
                            generalize addM ⟨1, year, month, day, sec, 0, false, 0⟩ ⟨0, 86400 * days, 0⟩ = A at *
                            generalize addM ⟨1, year, month, day, sec, 0, false, 0⟩ ⟨months, 0, 0⟩ = C at *
                            obtain ⟨Ak, Ay, Am, Ad, As, An, Ah, Az⟩ := A
                            obtain ⟨Ck, Cy, Cm, Cd, Cs, Cn, Ch, Cz⟩ := C
                            dsimp only at *
                            subst e4 e5 e6
                            generalize daysS year (month + months) Cd = D2 at *
                            generalize daysS year month Cd = D1 at *
                            obtain ⟨b11, b12⟩ := b1
                            have HC : Hid _ := And.intro q1 (And.intro q2 (And.intro q3 (And.intro q4 (And.intro q5 (And.intro q6 (And.intro q7 q8))))))
                            clear q1 q2 q3 q4 q5 q6 q7 q8
                            have d1 : decide (year < -9000) = false := by simp; omega
                            have d2 : decide (9000 < year) = false := by simp; omega
                            have d3 : (year == 0) = false := by simpa using c3
                            have d4 : decide (month < 1) = false := by simp; omega
                            have d5 : decide (12 < month) = false := by simp; omega
                            have d6 : decide (Cd < 1) = false := by simp; omega
                            have d7 : decide (28 < Cd) = false := by simp; omega
                            have d8 : decide (As < 0) = false := by simp; omega
                            have d9 : decide (86399 < As) = false := by simp; omega
                            have d10 : decide (days < -1048576) = false := by simp; omega
                            have d11 : decide (1048576 < days) = false := by simp; omega
                            have d12 : decide (months < -16384) = false := by simp; omega
                            have d13 : decide (16384 < months) = false := by simp; omega
                            go_enter Try.func8, Try.ntmps8
                            go_wp2_with fail
                            refine Calls.mono (HK.out.1 _) ?_
                            rintro e w1 ⟨rfl, hb1⟩
                            have HB : Hid _ := hb1
                            clear hb1
                            go_upto_region 6 with fail
                            obtain ⟨V0, hV0⟩ : ∃ V, w1.alloc (.cells (moC ⟨1, year, month, Cd, As, 0, false, 0⟩) 24) = V := ⟨_, rfl⟩
                            rw [hV0]
                            have hbV : Below w1.heap.size w1 V0 := by rw [← hV0]; exact (Below.refl _ _).alloc (Nat.le_refl _) _
                            have x0 : V0.heap[w1.heap.size]? = some (.cells (moC ⟨1, year, month, Cd, As, 0, false, 0⟩) 24 (0, 0)) := by rw [← hV0]; exact nw_heap _ _
                            clear hV0
                            have hstep : Below w1.heap.size w1 V0 := hbV
                            have HB : Hid (Below w.heap.size w V0) := HB.out.trans (hstep.mono HB.out.size)
                            clear hstep hbV
                            obtain ⟨⟨a0', a1', a2', a3', a4', a5', a6', a7'⟩, _⟩ := blk8 x0
                            go_wp2_with fail
                            refine Calls.mono (HC.out.1 _) ?_
                            rintro e w2 ⟨rfl, hb2⟩
                            clear a0' a1' a2' a3' a4' a5' a6' a7'
                            go_upto_region 7 with fail
                            obtain ⟨V1, hV1⟩ : ∃ V, w2.alloc (.cells (moC ⟨Ak, Ay, Am, Ad, As, An, Ah, Az⟩) 24) = V := ⟨_, rfl⟩
                            rw [hV1]
                            have hbV : Below w2.heap.size w2 V1 := by rw [← hV1]; exact (Below.refl _ _).alloc (Nat.le_refl _) _
                            have x1 : V1.heap[w2.heap.size]? = some (.cells (moC ⟨Ak, Ay, Am, Ad, As, An, Ah, Az⟩) 24 (0, 0)) := by rw [← hV1]; exact nw_heap _ _
                            clear hV1
                            have hstep : Below V0.heap.size V0 V1 := bl_step hb2 hbV
                            replace x0 := (hstep.block _ (lt_of x0)).trans x0
                            have HB : Hid (Below w.heap.size w V1) := HB.out.trans (hstep.mono HB.out.size)
                            clear hstep hbV
                            clear hb2
                            obtain ⟨⟨a0', a1', a2', a3', a4', a5', a6', a7'⟩, _⟩ := blk8 x1
                            go_wp2_with fail
                            refine Calls.mono (HC.out.2.1 _) ?_
                            rintro e w3 ⟨rfl, hb3⟩
                            clear a0' a1' a2' a3' a4' a5' a6' a7'
                            go_upto_region 8 with fail
                            obtain ⟨V2, hV2⟩ : ∃ V, w3.alloc (.cells (moC ⟨1, year, month, Cd, As, 0, false, 0⟩) 24) = V := ⟨_, rfl⟩
                            rw [hV2]
                            have hbV : Below w3.heap.size w3 V2 := by rw [← hV2]; exact (Below.refl _ _).alloc (Nat.le_refl _) _
                            have x2 : V2.heap[w3.heap.size]? = some (.cells (moC ⟨1, year, month, Cd, As, 0, false, 0⟩) 24 (0, 0)) := by rw [← hV2]; exact nw_heap _ _
                            clear hV2
                            have hstep : Below V1.heap.size V1 V2 := bl_step hb3 hbV
                            replace x0 := (hstep.block _ (lt_of x0)).trans x0
                            replace x1 := (hstep.block _ (lt_of x1)).trans x1
                            have HB : Hid (Below w.heap.size w V2) := HB.out.trans (hstep.mono HB.out.size)
                            clear hstep hbV
                            clear hb3
                            obtain ⟨⟨a0', a1', a2', a3', a4', a5', a6', a7'⟩, _⟩ := blk8 x0
                            go_wp2_with fail
                            refine Calls.mono (HC.out.2.2.1 _) ?_
                            rintro e w4 ⟨rfl, hb4⟩
                            clear a0' a1' a2' a3' a4' a5' a6' a7'
                            go_upto_region 9 with fail
                            obtain ⟨V3, hV3⟩ : ∃ V, w4.alloc (.cells (moC ⟨Ck, Cy, Cm, Cd, As, Cn, Ch, Cz⟩) 24) = V := ⟨_, rfl⟩
                            rw [hV3]
                            have hbV : Below w4.heap.size w4 V3 := by rw [← hV3]; exact (Below.refl _ _).alloc (Nat.le_refl _) _
                            have x3 : V3.heap[w4.heap.size]? = some (.cells (moC ⟨Ck, Cy, Cm, Cd, As, Cn, Ch, Cz⟩) 24 (0, 0)) := by rw [← hV3]; exact nw_heap _ _
                            clear hV3
                            have hstep : Below V2.heap.size V2 V3 := bl_step hb4 hbV
                            replace x0 := (hstep.block _ (lt_of x0)).trans x0
                            replace x1 := (hstep.block _ (lt_of x1)).trans x1
                            replace x2 := (hstep.block _ (lt_of x2)).trans x2
                            have HB : Hid (Below w.heap.size w V3) := HB.out.trans (hstep.mono HB.out.size)
                            clear hstep hbV
                            clear hb4
                            obtain ⟨⟨a0', a1', a2', a3', a4', a5', a6', a7'⟩, _⟩ := blk8 x3
                            go_wp2_with fail
                            refine Calls.mono (HC.out.2.2.2.1 _) ?_
                            rintro e w5 ⟨rfl, hb5⟩
                            clear a0' a1' a2' a3' a4' a5' a6' a7'
                            go_upto_region 10 with fail
                            obtain ⟨V4, hV4⟩ : ∃ V, w5.alloc (.cells (moC ⟨1, year, month, Cd, As, 0, false, 0⟩) 24) = V := ⟨_, rfl⟩
                            rw [hV4]
                            have hbV : Below w5.heap.size w5 V4 := by rw [← hV4]; exact (Below.refl _ _).alloc (Nat.le_refl _) _
                            have x4 : V4.heap[w5.heap.size]? = some (.cells (moC ⟨1, year, month, Cd, As, 0, false, 0⟩) 24 (0, 0)) := by rw [← hV4]; exact nw_heap _ _
                            clear hV4
                            have hstep : Below V3.heap.size V3 V4 := bl_step hb5 hbV
                            replace x0 := (hstep.block _ (lt_of x0)).trans x0
                            replace x1 := (hstep.block _ (lt_of x1)).trans x1
                            replace x2 := (hstep.block _ (lt_of x2)).trans x2
                            replace x3 := (hstep.block _ (lt_of x3)).trans x3
                            have HB : Hid (Below w.heap.size w V4) := HB.out.trans (hstep.mono HB.out.size)
                            clear hstep hbV
                            clear hb5
                            obtain ⟨⟨a0', a1', a2', a3', a4', a5', a6', a7'⟩, _⟩ := blk8 x0
                            obtain ⟨⟨b0', b1', b2', b3', b4', b5', b6', b7'⟩, _⟩ := blk8 x1
                            obtain ⟨⟨c0', c1', c2', c3', c4', c5', c6', c7'⟩, _⟩ := blk8 x2
                            obtain ⟨⟨d0', d1', d2', d3', d4', d5', d6', d7'⟩, _⟩ := blk8 x3
                            obtain ⟨⟨f0', f1', f2', f3', f4', f5', f6', f7'⟩, _⟩ := blk8 x4
                            go_wp2_with fail
                            refine Calls.mono (HC.out.2.2.2.2.1 _) ?_
                            rintro e w6 ⟨rfl, hb6⟩
                            have HB : Hid (Below w.heap.size w w6) := HB.out.trans (hb6.mono HB.out.size)
                            replace x3 := (hb6.block _ (lt_of x3)).trans x3
                            clear x0 x1 x2 x4 hb6 a0' a1' a2' a3' a4' a5' a6' a7' b0' b1' b2' b3' b4' b5' b6' b7' c0' c1' c2' c3' c4' c5' c6' c7' d0' d1' d2' d3' d4' d5' d6' d7' f0' f1' f2' f3' f4' f5' f6' f7'
                            go_wp2_with fail
                            refine Calls.mono (HC.out.2.2.2.2.2.1 _) ?_
                            rintro e w7 ⟨rfl, hb7⟩
                            have HB : Hid (Below w.heap.size w w7) := HB.out.trans (hb7.mono HB.out.size)
                            replace x3 := (hb7.block _ (lt_of x3)).trans x3
                            clear hb7
                            obtain ⟨⟨d0', d1', d2', d3', d4', d5', d6', d7'⟩, _⟩ := blk8 x3
                            go_wp2_with fail
                            refine Calls.mono (HC.out.2.2.2.2.2.2.1 _) ?_
                            rintro e w8 ⟨rfl, hb8⟩
                            have HB : Hid (Below w.heap.size w w8) := HB.out.trans (hb8.mono HB.out.size)
                            clear x3 hb8 d0' d1' d2' d3' d4' d5' d6' d7'
                            go_wp2_with fail
                            refine Calls.mono (HC.out.2.2.2.2.2.2.2 _) ?_
                            rintro e w9 ⟨rfl, hb9⟩
                            have HB : Hid (Below w.heap.size w w9) := HB.out.trans (hb9.mono HB.out.size)
                            clear hb9
                            go_wp2_with fail
                            go_ret
                            exact ⟨rfl, HB.out⟩
end Go.Proofs.Ytijcbgjlofcdfaa
