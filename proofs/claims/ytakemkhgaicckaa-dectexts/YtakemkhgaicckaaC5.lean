/- The second telling: Right. -/
import Derived.Test.YtakemkhgaicckaaC1
namespace Go.Proofs.Ytakemkhgaicckaa
open Go.RowKit
set_option linter.unusedVariables false

set_option maxRecDepth 100000 in
set_option maxHeartbeats 3200000 in
theorem right_r {w : World} {v : Value} {l : List Int} (h : BtR w v l) (neg : Bool) (sc : Int) (hs0 : -9223372036854775808 ≤ sc) (hs1 : sc ≤ 9223372036854775807) : Calls Try.prog 13 #[nmV neg v sc] w fun e w' => e = .returned (.bool (rgS neg l sc)) ∧ Below w.heap.size w w' := by
  have hb0 : ∀ o, Below w.heap.size w (w.alloc o) := fun o => (Below.refl _ _).alloc (Nat.le_refl _) _
  have hZ := fun W (hW : Below w.heap.size w W) => zero_r (h.below hW) neg sc
  obtain ⟨a, cap, rfl, h1, h2, h3, h4⟩ := h
  unfold maxLen at h2
  have hbx := hb0 (.cells #[.bool neg, .slice a l.length cap, .int .i64 sc] 29)
  have hbk := nw_heap w (.cells #[.bool neg, .slice a l.length cap, .int .i64 sc] 29)
  obtain ⟨c0, c1, c2⟩ := bl3 hbk
  have hR : rgS neg l sc = (decide (1 ≤ l.length ∧ l.length ≤ 4096 ∧ 0 ≤ sc ∧ sc ≤ l.length - 1) && l.all (fun d => decide (d ≤ 9)) && (decide ((l.length : Int) - sc = 1) || !(l.head? == some 0)) && (decide (sc = 0) || !(l.getLast? == some 0)) && !(l.all (· == 0) && neg)) := rfl
  generalize rgS neg l sc = R at *
  have HH : Hid _ := And.intro h3 (And.intro h4 (And.intro hbx (And.intro hbk (And.intro hR hZ))))
  clear h3 h4 hbx hbk hR hZ hb0
  have hbad : ¬ (1 ≤ l.length ∧ l.length ≤ 4096 ∧ 0 ≤ sc ∧ sc ≤ (l.length : Int) - 1) → R = false := fun q => by
    rw [HH.out.2.2.2.2.1, decide_eq_false q]
    simp
  by_cases g1 : (l.length : Int) < 1
  · have : R = false := hbad (by omega)
    subst this
    clear hbad
    go_enter Try.func13, Try.ntmps13
    go_wp2_with fail
    go_ret
    exact ⟨rfl, HH.out.2.2.1⟩
  by_cases g2 : 4096 < (l.length : Int)
  · have : R = false := hbad (by omega)
    subst this
    clear hbad
    go_enter Try.func13, Try.ntmps13
    go_wp2_with fail
    go_ret
    exact ⟨rfl, HH.out.2.2.1⟩
  by_cases g3 : sc < 0
  · have : R = false := hbad (by omega)
    subst this
    clear hbad
    go_enter Try.func13, Try.ntmps13
    go_wp2_with fail
    go_ret
    exact ⟨rfl, HH.out.2.2.1⟩
  by_cases g4 : (l.length : Int) - 1 < sc
  · have : R = false := hbad (by omega)
    subst this
    clear hbad
    go_enter Try.func13, Try.ntmps13
    go_wp2_with fail
    go_ret
    exact ⟨rfl, HH.out.2.2.1⟩
  have hdec : decide (1 ≤ l.length ∧ l.length ≤ 4096 ∧ 0 ≤ sc ∧ sc ≤ (l.length : Int) - 1) = true := decide_eq_true (by omega)
  have hR2 : R = (l.all (fun d => decide (d ≤ 9)) && (decide ((l.length : Int) - sc = 1) || !(l.head? == some 0)) && (decide (sc = 0) || !(l.getLast? == some 0)) && !(l.all (· == 0) && neg)) := by rw [HH.out.2.2.2.2.1, hdec, Bool.true_and]
  have HR : Hid _ := hR2
  clear hbad hdec hR2
  rcases HH.out.2.1 with he | ⟨g, o, rfl, hg, hc⟩
  · rw [he] at g1; simp at g1
  have HC : Hid _ := hc
  clear hc
  go_enter Try.func13, Try.ntmps13
  go_wp2_with fail
  go_loopg [4] l.length (fun m v4 wr => ∃ i : Nat, v4 = .int .i64 i ∧ i + m = l.length ∧ wr = w.alloc (.cells #[.bool neg, .slice (some ⟨g, o, none⟩) l.length cap, .int .i64 sc] 29) ∧ Hid (l.all (fun d => decide (d ≤ 9)) = (l.drop i).all (fun d => decide (d ≤ 9))))
  case atStart => exact ⟨0, rfl, by omega, rfl, rfl⟩
  case round =>
    obtain ⟨i, rfl, him, hwr, hal⟩ := hrel
    rw [← hwr] at c0 c1 c2
    have hbw := HH.out.2.2.1
    rw [← hwr] at hbw
    have hbkw := HH.out.2.2.2.1
    rw [← hwr] at hbkw
    have HW : Hid _ := And.intro hwr (And.intro hbw hbkw)
    clear hwr hbw hbkw
    by_cases hi : i < l.length
    · obtain ⟨m, rfl⟩ : ∃ m, gk = m + 1 := ⟨gk - 1, by omega⟩
      have x0 := (HW.out.2.1.cell (p := ⟨g, o + i, none⟩) hg).trans (HC.out i hi)
      have hd : (l.drop i).all (fun d => decide (d ≤ 9)) = (decide (l[i]'hi ≤ 9) && (l.drop (i + 1)).all (fun d => decide (d ≤ 9))) := by
        rw [List.drop_eq_getElem_cons hi, List.all_cons]
      have hbd := HH.out.1 _ (List.getElem_mem hi)
      generalize (l[i]'hi) = d at *
      have HX : Hid _ := And.intro hal hd
      clear hal hd
      obtain ⟨hb1, hb2⟩ := hbd
      by_cases hd9 : (9 : Int) < d
      · have hRf : R = false := by
          rw [HR.out, HX.out.1.out, HX.out.2, decide_eq_false (by omega)]
          simp
        subst hRf
        go_wp2_with fail
        go_ret
        exact ⟨rfl, HW.out.2.1⟩
      · go_wp2_with fail
        go_roundg m
        case measure => omega
        case rel => exact ⟨i + 1, by simp, by omega, HW.out.1, by show _ = _; rw [HX.out.1.out, HX.out.2, decide_eq_true (by omega)]; rfl⟩
    · obtain rfl : i = l.length := by omega
      have hall : l.all (fun d => decide (d ≤ 9)) = true := by rw [hal.out, List.drop_length]; rfl
      have hR3 : R = ((decide ((l.length : Int) - sc = 1) || !(l.head? == some 0)) && (decide (sc = 0) || !(l.getLast? == some 0)) && !(l.all (· == 0) && neg)) := by rw [HR.out, hall, Bool.true_and]
      clear hall hal
      have hn : 0 < l.length := by omega
      have x0 := (HW.out.2.1.cell (p := ⟨g, o, none⟩) hg).trans (HC.out 0 hn)
      have x1 := (HW.out.2.1.cell (p := ⟨g, o + (l.length - 1), none⟩) hg).trans (HC.out (l.length - 1) (by omega))
      have hh : l.head? = some (l[0]'hn) := by rw [List.head?_eq_getElem?, List.getElem?_eq_getElem]
      have hla : l.getLast? = some (l[l.length - 1]'(by omega)) := by rw [List.getLast?_eq_getElem?, List.getElem?_eq_getElem]
      rw [hh, hla] at hR3
      have b0 := HH.out.1 _ (List.getElem_mem hn)
      have b1 := HH.out.1 _ (List.getElem_mem (show l.length - 1 < l.length by omega))
      generalize (l[0]'hn) = d0 at *
      generalize (l[l.length - 1]'(by omega)) = d1 at *
      have e1 : ((l.length : Nat) : Int) - 1 = ((l.length - 1 : Nat) : Int) := by omega
      have hk : l.length - 1 < l.length := by omega
      have HR3 : Hid _ := hR3
      have HZ := HH.out.2.2.2.2.2 _ HW.out.2.1
      have HZ2 : Hid _ := HZ
      clear HZ hR3 hh hla
      generalize l.all (· == 0) = az at *
      have hsl : (l.length : Int) - sc = 1 ∨ ((l.length : Int) - sc ≠ 1 ∧ d0 ≠ 0) ∨ ((l.length : Int) - sc ≠ 1 ∧ d0 = 0) := by omega
      have hla : sc = 0 ∨ (sc ≠ 0 ∧ d1 ≠ 0) ∨ (sc ≠ 0 ∧ d1 = 0) := by omega
      rcases hsl with p1 | ⟨p1, p2⟩ | ⟨p1, p2⟩
      case' inr.inr =>
        have p1b : (((l.length : Nat) : Int) - sc == 1) = false := by simpa using p1
        have hRf : R = false := by rw [HR3.out]; simp [p1, p2]
        subst hRf
        subst p2
        go_wp2_with fail
        go_ret
        exact ⟨rfl, HW.out.2.1⟩
      case' inl =>
        have p1b : (((l.length : Nat) : Int) - sc == 1) = true := by simpa using p1
        have hR4 : R = ((decide (sc = 0) || !(some d1 == some 0)) && !(az && neg)) := by rw [HR3.out]; simp [p1]
      case' inr.inl =>
        have p1b : (((l.length : Nat) : Int) - sc == 1) = false := by simpa using p1
        have p2b : (d0 == 0) = false := by simpa using p2
        have p2c : (d0 != 0) = true := by simpa using p2
        have hR4 : R = ((decide (sc = 0) || !(some d1 == some 0)) && !(az && neg)) := by rw [HR3.out]; simp [p2b]
      all_goals
        clear p1
        have HR4 : Hid _ := hR4
        clear hR4 HR3
        rcases hla with p3 | ⟨p3, p4⟩ | ⟨p3, p4⟩
        case' inr.inr =>
          have p3b : (sc == 0) = false := by simpa using p3
          have hRf : R = false := by rw [HR4.out]; simp [p3, p4]
          subst hRf
          subst p4
          go_wp2_with fail
          go_ret
          exact ⟨rfl, HW.out.2.1⟩
        case' inl =>
          have p3b : (sc == 0) = true := by simpa using p3
          have hR5 : R = !(az && neg) := by rw [HR4.out]; simp [p3]
        case' inr.inl =>
          have p3b : (sc == 0) = false := by simpa using p3
          have p4b : (d1 == 0) = false := by simpa using p4
          have p4c : (d1 != 0) = true := by simpa using p4
          have hR5 : R = !(az && neg) := by rw [HR4.out]; simp [p4b]
        all_goals
          clear p3
          subst hR5
          cases az <;> cases neg
          all_goals
            go_wp2_with fail
            refine Calls.mono HZ2.out ?_
            rintro e w2 ⟨rfl, hb2⟩
            have hbb := HW.out.2.1.trans (hb2.mono HW.out.2.1.size)
            have hbk2 := (hb2.block _ (lt_of HW.out.2.2)).trans HW.out.2.2
            obtain ⟨n0, n1, n2⟩ := bl3 hbk2
            have HB2 : Hid _ := hbb
            clear hb2 hbb hbk2
            go_wp2_with fail
            go_ret
            exact ⟨rfl, HB2.out⟩
end Go.Proofs.Ytakemkhgaicckaa
