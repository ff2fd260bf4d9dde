/- DateDays: the walk. -/
import Derived.Test.YtijcbgjlofcdfaaKn
import Derived.Test.YtijcbgjlofcdfaaLf6
namespace Go.Proofs.Ytijcbgjlofcdfaa
open Go.RowKit
set_option linter.unusedVariables false

theorem days_bd {y m d : Int} (y0 : -10000000000 < y) (y1 : y < 10000000000) (m0 : -10000000000 < m) (m1 : m < 10000000000) (d0 : -10000000000 < d) (d1 : d < 10000000000) : -100000000000000 < daysS y m d ∧ daysS y m d < 100000000000000 := by
  unfold daysS dayN
  have hl : -20000000000 < lnY y + (m - 1) / 12 ∧ lnY y + (m - 1) / 12 < 20000000000 := by unfold lnY; split <;> omega
  generalize lnY y + (m - 1) / 12 = l at *
  rw [Nat.add_sub_cancel]
  have := cum_nonneg l ((m - 1) % 12).toNat
  have := cum_le l (show ((m - 1) % 12).toNat ≤ 12 by omega)
  have ha : -20000000000000 < ahd l ∧ ahd l < 20000000000000 := by unfold ahd; omega
  have hb : ahd 2000 = 730485 := by decide
  omega
set_option maxHeartbeats 2000000 in
theorem days_s (year month day : Int) (w : World) : Calls Try.prog 6 #[.int .i64 year, .int .i64 month, .int .i64 day] w fun e w' => e = .returned (.bool true) ∧ Below w.heap.size w w' := by
  have HK : Hid _ := And.intro (fun W : World => known_p W) trivial
  by_cases c1 : year < -2147483648
  · go_enter Try.func6, Try.ntmps6
    go_wp2_with fail
    refine Calls.mono (HK.out.1 _) ?_
    rintro e w1 ⟨rfl, hb1⟩
    go_wp2_with fail
    go_ret
    exact ⟨rfl, hb1⟩
  · by_cases c2 : 2147483648 < year
    · go_enter Try.func6, Try.ntmps6
      go_wp2_with fail
      refine Calls.mono (HK.out.1 _) ?_
      rintro e w1 ⟨rfl, hb1⟩
      go_wp2_with fail
      go_ret
      exact ⟨rfl, hb1⟩
    · by_cases c3 : year = 0
      · go_enter Try.func6, Try.ntmps6
        go_wp2_with fail
        refine Calls.mono (HK.out.1 _) ?_
        rintro e w1 ⟨rfl, hb1⟩
        go_wp2_with fail
        go_ret
        exact ⟨rfl, hb1⟩
      · by_cases c4 : month < -2147483648
        · go_enter Try.func6, Try.ntmps6
          go_wp2_with fail
          refine Calls.mono (HK.out.1 _) ?_
          rintro e w1 ⟨rfl, hb1⟩
          go_wp2_with fail
          go_ret
          exact ⟨rfl, hb1⟩
        · by_cases c5 : 2147483648 < month
          · go_enter Try.func6, Try.ntmps6
            go_wp2_with fail
            refine Calls.mono (HK.out.1 _) ?_
            rintro e w1 ⟨rfl, hb1⟩
            go_wp2_with fail
            go_ret
            exact ⟨rfl, hb1⟩
          · by_cases c6 : day < -2147483648
            · go_enter Try.func6, Try.ntmps6
              go_wp2_with fail
              refine Calls.mono (HK.out.1 _) ?_
              rintro e w1 ⟨rfl, hb1⟩
              go_wp2_with fail
              go_ret
              exact ⟨rfl, hb1⟩
            · by_cases c7 : 2147483648 < day
              · go_enter Try.func6, Try.ntmps6
                go_wp2_with fail
                refine Calls.mono (HK.out.1 _) ?_
                rintro e w1 ⟨rfl, hb1⟩
                go_wp2_with fail
                go_ret
                exact ⟨rfl, hb1⟩
              · have q1 := fun W : World => days_p year month day W (by omega) (by omega) (by omega) (by omega) (by omega) (by omega)
                have q2 := fun W : World => days_r year month day W (by omega) (by omega) (by omega) (by omega) (by omega) (by omega)
                have q3 := fun W : World => days_p year month (day + 1) W (by omega) (by omega) (by omega) (by omega) (by omega) (by omega)
                have q4 := fun W : World => Leap_p year W (by omega) (by omega)
                have q5 := fun W : World => Leap_r year W (by omega) (by omega)
                have q6 := fun W : World => length_p year month W (by omega) (by omega) (by omega) (by omega)
                have q7 := fun W : World => length_r year month W (by omega) (by omega) (by omega) (by omega)
                have q8 := fun W : World => days_p year 13 1 W (by omega) (by omega) (by omega) (by omega) (by omega) (by omega)
                have q9 := fun W : World => days_p year 1 1 W (by omega) (by omega) (by omega) (by omega) (by omega) (by omega)
                have q10 := fun W : World => days_p year (month + 12) 1 W (by omega) (by omega) (by omega) (by omega) (by omega) (by omega)
                have q11 := fun W : World => days_p year month 1 W (by omega) (by omega) (by omega) (by omega) (by omega) (by omega)
                have e1 : daysS year month (day + 1) = daysS year month day + 1 := days_day _ _ _ _
                have e2 := days_year year
                have e3 := days_twelve year month
                have b1 := days_bd (y := year) (m := month) (d := day) (by omega) (by omega) (by omega) (by omega) (by omega) (by omega)
                have b2 := days_bd (y := year) (m := 13) (d := 1) (by omega) (by omega) (by omega) (by omega) (by omega) (by omega)
                have b3 := days_bd (y := year) (m := 1) (d := 1) (by omega) (by omega) (by omega) (by omega) (by omega) (by omega)
                have b4 := days_bd (y := year) (m := month + 12) (d := 1) (by omega) (by omega) (by omega) (by omega) (by omega) (by omega)
                have b5 := days_bd (y := year) (m := month) (d := 1) (by omega) (by omega) (by omega) (by omega) (by omega) (by omega)
                rw [e1] at q3
                unfold yrL at e2
                generalize daysS year month day = D1 at *
                generalize daysS year 13 1 = D2 at *
                generalize daysS year 1 1 = D3 at *
                generalize daysS year (month + 12) 1 = D4 at *
                generalize daysS year month 1 = D5 at *
                generalize lenL (lnY year) month = LN at *
                generalize lpL (lnY year) = LP at *
                have HC : Hid _ := And.intro q1 (And.intro q2 (And.intro q3 (And.intro q4 (And.intro q5 (And.intro q6 (And.intro q7 (And.intro q8 (And.intro q9 (And.intro q10 q11)))))))))
                clear q1 q2 q3 q4 q5 q6 q7 q8 q9 q10 q11 e1
                obtain ⟨b11, b12⟩ := b1
                obtain ⟨b21, b22⟩ := b2
                obtain ⟨b31, b32⟩ := b3
                obtain ⟨b41, b42⟩ := b4
                obtain ⟨b51, b52⟩ := b5
                have h365 : 365 ≤ D4 - D5 := e3
                clear e3
                have hn1 : (D1 != D1) = false := by simp
                have hn2 : (D1 + 1 != D1 + 1) = false := by simp
                have hn3 : (LP != LP) = false := by simp
                have hn4 : (LN != LN) = false := by simp
                have d1 : decide (year < -2147483648) = false := by simp; omega
                have d2 : decide (2147483648 < year) = false := by simp; omega
                have d3 : (year == 0) = false := by simpa using c3
                have d4 : decide (month < -2147483648) = false := by simp; omega
                have d5 : decide (2147483648 < month) = false := by simp; omega
                have d6 : decide (day < -2147483648) = false := by simp; omega
                have d7 : decide (2147483648 < day) = false := by simp; omega
                cases LP
                · have hE : D2 - D3 = 365 := by simpa using e2
                  clear e2 hn3
                  have hn3 : (false != false) = false := by simp
                  go_enter Try.func6, Try.ntmps6
                  go_wp2_with fail
                  refine Calls.mono (HK.out.1 _) ?_
                  rintro e w1 ⟨rfl, hb1⟩
                  have HB : Hid _ := hb1
                  clear hb1
                  go_wp2_with fail
                  refine Calls.mono (HC.out.1 _) ?_
                  rintro e w2 ⟨rfl, hb2⟩
                  have HB : Hid _ := HB.out.trans (hb2.mono HB.out.size)
                  clear hb2
                  go_wp2_with fail
                  refine Calls.mono (HC.out.2.1 _) ?_
                  rintro e w2 ⟨rfl, hw⟩
                  subst hw
                  go_wp2_with fail
                  refine Calls.mono (HC.out.2.2.1 _) ?_
                  rintro e w2 ⟨rfl, hb2⟩
                  have HB : Hid _ := HB.out.trans (hb2.mono HB.out.size)
                  clear hb2
                  go_wp2_with fail
                  refine Calls.mono (HC.out.1 _) ?_
                  rintro e w2 ⟨rfl, hb2⟩
                  have HB : Hid _ := HB.out.trans (hb2.mono HB.out.size)
                  clear hb2
                  go_wp2_with fail
                  refine Calls.mono (HC.out.2.2.2.1 _) ?_
                  rintro e w2 ⟨rfl, hw⟩
                  subst hw
                  go_wp2_with fail
                  refine Calls.mono (HC.out.2.2.2.2.1 _) ?_
                  rintro e w2 ⟨rfl, hw⟩
                  subst hw
                  go_wp2_with fail
                  refine Calls.mono (HC.out.2.2.2.2.2.1 _) ?_
                  rintro e w2 ⟨rfl, hw⟩
                  subst hw
                  go_wp2_with fail
                  refine Calls.mono (HC.out.2.2.2.2.2.2.1 _) ?_
                  rintro e w2 ⟨rfl, hw⟩
                  subst hw
                  go_wp2_with fail
                  refine Calls.mono (HC.out.2.2.2.1 _) ?_
                  rintro e w2 ⟨rfl, hw⟩
                  subst hw
                  go_wp2_with fail
                  refine Calls.mono (HC.out.2.2.2.2.2.2.2.1 _) ?_
                  rintro e w2 ⟨rfl, hb2⟩
                  have HB : Hid _ := HB.out.trans (hb2.mono HB.out.size)
                  clear hb2
                  go_wp2_with fail
                  refine Calls.mono (HC.out.2.2.2.2.2.2.2.2.1 _) ?_
                  rintro e w2 ⟨rfl, hb2⟩
                  have HB : Hid _ := HB.out.trans (hb2.mono HB.out.size)
                  clear hb2
                  go_wp2_with fail
                  refine Calls.mono (HC.out.2.2.2.2.2.2.2.2.2.1 _) ?_
                  rintro e w2 ⟨rfl, hb2⟩
                  have HB : Hid _ := HB.out.trans (hb2.mono HB.out.size)
                  clear hb2
                  go_wp2_with fail
                  refine Calls.mono (HC.out.2.2.2.2.2.2.2.2.2.2 _) ?_
                  rintro e w2 ⟨rfl, hb2⟩
                  have HB : Hid _ := HB.out.trans (hb2.mono HB.out.size)
                  clear hb2
                  go_wp2_with fail
                  go_ret
                  exact ⟨rfl, HB.out⟩
                · have hE : D2 - D3 = 366 := by simpa using e2
                  clear e2 hn3
                  have hn3 : (true != true) = false := by simp
                  go_enter Try.func6, Try.ntmps6
                  go_wp2_with fail
                  refine Calls.mono (HK.out.1 _) ?_
                  rintro e w1 ⟨rfl, hb1⟩
                  have HB : Hid _ := hb1
                  clear hb1
                  go_wp2_with fail
                  refine Calls.mono (HC.out.1 _) ?_
                  rintro e w2 ⟨rfl, hb2⟩
                  have HB : Hid _ := HB.out.trans (hb2.mono HB.out.size)
                  clear hb2
                  go_wp2_with fail
                  refine Calls.mono (HC.out.2.1 _) ?_
                  rintro e w2 ⟨rfl, hw⟩
                  subst hw
                  go_wp2_with fail
                  refine Calls.mono (HC.out.2.2.1 _) ?_
                  rintro e w2 ⟨rfl, hb2⟩
                  have HB : Hid _ := HB.out.trans (hb2.mono HB.out.size)
                  clear hb2
                  go_wp2_with fail
                  refine Calls.mono (HC.out.1 _) ?_
                  rintro e w2 ⟨rfl, hb2⟩
                  have HB : Hid _ := HB.out.trans (hb2.mono HB.out.size)
                  clear hb2
                  go_wp2_with fail
                  refine Calls.mono (HC.out.2.2.2.1 _) ?_
                  rintro e w2 ⟨rfl, hw⟩
                  subst hw
                  go_wp2_with fail
                  refine Calls.mono (HC.out.2.2.2.2.1 _) ?_
                  rintro e w2 ⟨rfl, hw⟩
                  subst hw
                  go_wp2_with fail
                  refine Calls.mono (HC.out.2.2.2.2.2.1 _) ?_
                  rintro e w2 ⟨rfl, hw⟩
                  subst hw
                  go_wp2_with fail
                  refine Calls.mono (HC.out.2.2.2.2.2.2.1 _) ?_
                  rintro e w2 ⟨rfl, hw⟩
                  subst hw
                  go_wp2_with fail
                  refine Calls.mono (HC.out.2.2.2.1 _) ?_
                  rintro e w2 ⟨rfl, hw⟩
                  subst hw
                  go_wp2_with fail
                  refine Calls.mono (HC.out.2.2.2.2.2.2.2.1 _) ?_
                  rintro e w2 ⟨rfl, hb2⟩
                  have HB : Hid _ := HB.out.trans (hb2.mono HB.out.size)
                  clear hb2
                  go_wp2_with fail
                  refine Calls.mono (HC.out.2.2.2.2.2.2.2.2.1 _) ?_
                  rintro e w2 ⟨rfl, hb2⟩
                  have HB : Hid _ := HB.out.trans (hb2.mono HB.out.size)
                  clear hb2
                  go_wp2_with fail
                  refine Calls.mono (HC.out.2.2.2.2.2.2.2.2.2.1 _) ?_
                  rintro e w2 ⟨rfl, hb2⟩
                  have HB : Hid _ := HB.out.trans (hb2.mono HB.out.size)
                  clear hb2
                  go_wp2_with fail
                  refine Calls.mono (HC.out.2.2.2.2.2.2.2.2.2.2 _) ?_
                  rintro e w2 ⟨rfl, hb2⟩
                  have HB : Hid _ := HB.out.trans (hb2.mono HB.out.size)
                  clear hb2
                  go_wp2_with fail
                  go_ret
                  exact ⟨rfl, HB.out⟩
end Go.Proofs.Ytijcbgjlofcdfaa
