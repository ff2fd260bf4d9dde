/- The program: Right, Total. -/
import Derived.Test.YtgaegajcejpmdaaGreatDoorHDcD1
namespace Go.Proofs.YtgaegajcejpmdaaGreatDoor.Dc
open Go.RowKit
set_option linter.unusedVariables false

/-- Right, by the program's way. -/
theorem rg_pr (neg : Bool) (l : List Int) (sc : Int) : rgS neg l sc = if 1 ≤ l.length ∧ l.length ≤ 4096 ∧ 0 ≤ sc ∧ sc ≤ l.length - 1 then
    (if 9 < mxS l then false else if 1 < (l.length : Int) - sc ∧ l.head? = some 0 then false else if 0 < sc ∧ l.getLast? = some 0 then false else (!neg || !(noS l))) else false := by
  unfold rgS
  by_cases h1 : 1 ≤ l.length ∧ l.length ≤ 4096 ∧ 0 ≤ sc ∧ sc ≤ (l.length : Int) - 1
  · rw [if_pos h1, decide_eq_true h1, Bool.true_and, ← mx_nine]
    by_cases h2 : 9 < mxS l
    · rw [if_pos h2, decide_eq_false (by omega)]; simp
    · rw [if_neg h2, decide_eq_true (by omega), Bool.true_and]
      by_cases h3 : 1 < (l.length : Int) - sc ∧ l.head? = some 0
      · rw [if_pos h3, decide_eq_false (by omega), h3.2]; simp
      · rw [if_neg h3]
        have e3 : (decide ((l.length : Int) - sc = 1) || !(l.head? == some 0)) = true := by
          by_cases q : (l.length : Int) - sc = 1
          · simp [q]
          · have : ¬ l.head? = some 0 := fun r => h3 ⟨by omega, r⟩
            simp [this]
        rw [e3, Bool.true_and]
        by_cases h4 : 0 < sc ∧ l.getLast? = some 0
        · rw [if_pos h4, decide_eq_false (by omega), h4.2]; simp
        · rw [if_neg h4]
          have e4 : (decide (sc = 0) || !(l.getLast? == some 0)) = true := by
            by_cases q : sc = 0
            · simp [q]
            · have : ¬ l.getLast? = some 0 := fun r => h4 ⟨by omega, r⟩
              simp [this]
          rw [e4, Bool.true_and]
          have e5 : l.all (· == 0) = noS l := by
            rw [Bool.eq_iff_iff]
            unfold noS
            constructor
            · intro ha
              have hz : ∀ d ∈ l, d = 0 := fun d hd => by simpa using List.all_eq_true.1 ha d hd
              have hne : l ≠ [] := fun e => by rw [e] at h1; simp at h1
              have hh : l.head? = some 0 := by
                cases l with
                | nil => exact absurd rfl hne
                | cons d l => rw [hz d (by simp)]; rfl
              have hl : l.getLast? = some 0 := by
                obtain ⟨m, d, e, _, hg⟩ := last_mod hne
                rw [hg, hz d (by rw [e]; simp)]
              have q1 : ¬ 1 < (l.length : Int) - sc := fun q => h3 ⟨q, hh⟩
              have q2 : ¬ 0 < sc := fun q => h4 ⟨q, hl⟩
              have : l.length = 1 := by omega
              simp [this, hh]
            · intro hb
              simp only [Bool.and_eq_true, decide_eq_true_eq, beq_iff_eq] at hb
              obtain ⟨q1, q2⟩ := hb
              obtain ⟨d, rfl⟩ := List.length_eq_one_iff.1 q1
              simp at q2
              simp [q2]
          rw [e5]
          cases noS l <;> cases neg <;> rfl
  · rw [if_neg h1, decide_eq_false h1]; simp
set_option maxRecDepth 100000 in
set_option maxHeartbeats 3200000 in
theorem right_p {w : World} {v : Value} {l : List Int} (h : BtR w v l) (neg : Bool) (sc : Int) (hs0 : -9223372036854775808 ≤ sc) (hs1 : sc ≤ 9223372036854775807) : Calls Tryz.prog 54 #[nmV neg v sc] w fun e w' => e = .returned (.bool (rgS neg l sc)) ∧ Below w.heap.size w w' := by
  have hbx : Below w.heap.size w (w.alloc (.cells #[.bool neg, v, .int .i64 sc] 34)) := (Below.refl _ _).alloc (Nat.le_refl _) _
  have hbk := nw_heap w (.cells #[.bool neg, v, .int .i64 sc] 34)
  have hN := fun W (hW : Below w.heap.size w W) => nought_p (h.below hW) neg sc
  have hM := fun W (hW : Below w.heap.size w W) (hn : l ≠ []) => max_p (h.below hW) hn
  have hA := fun W (hW : Below w.heap.size w W) q1 q2 => ahead_p (h.below hW) neg sc q1 q2
  obtain ⟨a, cap, rfl, h1, h2, h3, h4⟩ := h
  unfold maxLen at h2
  have hR := rg_pr neg l sc
  generalize rgS neg l sc = R at *
  have HH : Hid _ := And.intro h3 (And.intro h4 (And.intro hbx (And.intro hbk (And.intro hR (And.intro hN (And.intro hM hA))))))
  clear h3 h4 hbx hbk hR hN hM hA
  have hbad : ¬ (1 ≤ l.length ∧ l.length ≤ 4096 ∧ 0 ≤ sc ∧ sc ≤ (l.length : Int) - 1) → R = false := fun q => by
    rw [HH.out.2.2.2.2.1, if_neg q]
  by_cases g1 : (l.length : Int) < 1
  · have : R = false := hbad (by omega)
    subst this
    clear hbad
    go_enter Tryz.func54, Tryz.ntmps54
    go_wp2_with fail
    go_ret
    exact ⟨rfl, HH.out.2.2.1⟩
  by_cases g2 : 4096 < (l.length : Int)
  · have : R = false := hbad (by omega)
    subst this
    clear hbad
    go_enter Tryz.func54, Tryz.ntmps54
    go_wp2_with fail
    go_ret
    exact ⟨rfl, HH.out.2.2.1⟩
  by_cases g3 : sc < 0
  · have : R = false := hbad (by omega)
    subst this
    clear hbad
    go_enter Tryz.func54, Tryz.ntmps54
    go_wp2_with fail
    go_ret
    exact ⟨rfl, HH.out.2.2.1⟩
  by_cases g4 : (l.length : Int) - 1 < sc
  · have : R = false := hbad (by omega)
    subst this
    clear hbad
    go_enter Tryz.func54, Tryz.ntmps54
    go_wp2_with fail
    go_ret
    exact ⟨rfl, HH.out.2.2.1⟩
  have hR2 : R = (if 9 < mxS l then false else if 1 < (l.length : Int) - sc ∧ l.head? = some 0 then false else if 0 < sc ∧ l.getLast? = some 0 then false else (!neg || !(noS l))) := by rw [HH.out.2.2.2.2.1, if_pos (by omega)]
  have hn : 0 < l.length := by omega
  have hne : l ≠ [] := fun e => by rw [e] at hn; simp at hn
  rcases HH.out.2.1 with he | ⟨g, o, rfl, hg, hc⟩
  · exact absurd he hne
  have hMX := HH.out.2.2.2.2.2.2.1 _ HH.out.2.2.1 hne
  have hmb := mx_bd l 0 (by omega) (by omega) HH.out.1
  have hh : l.head? = some (l[0]'hn) := by rw [List.head?_eq_getElem?, List.getElem?_eq_getElem]
  have hla : l.getLast? = some (l[l.length - 1]'(by omega)) := by rw [List.getLast?_eq_getElem?, List.getElem?_eq_getElem]
  rw [hh, hla] at hR2
  have hc0 := hc 0 hn
  rw [Nat.add_zero] at hc0
  have hc1 := hc (l.length - 1) (by omega)
  have b0 := HH.out.1 _ (List.getElem_mem hn)
  have b1 := HH.out.1 _ (List.getElem_mem (show l.length - 1 < l.length by omega))
  generalize (l[0]'hn) = d0 at *
  generalize (l[l.length - 1]'(by omega)) = d1 at *
  have e1 : ((l.length : Nat) : Int) - 1 = ((l.length - 1 : Nat) : Int) := by omega
  have hk : l.length - 1 < l.length := by omega
  have hm0 : 0 ≤ mxS l ∧ mxS l < 256 := hmb
  generalize mxS l = M at *
  generalize noS l = N at *
  have HR : Hid _ := And.intro hR2 (And.intro hMX (And.intro hc0 hc1))
  clear hbad hR2 hMX hmb hc hc0 hc1 hh hla
  obtain ⟨c0, c1, c2⟩ := bl3 HH.out.2.2.2.1
  go_enter Tryz.func54, Tryz.ntmps54
  go_wp2_with fail
  refine Calls.mono HR.out.2.1 ?_
  rintro e w1 ⟨rfl, hb1⟩
  have hbw1 := HH.out.2.2.1.trans (hb1.mono HH.out.2.2.1.size)
  have hT1 := (hb1.block _ (lt_of HH.out.2.2.2.1)).trans HH.out.2.2.2.1
  have hA1 := HH.out.2.2.2.2.2.2.2 _ hbw1 (by omega) (by omega)
  clear c0 c1 c2
  obtain ⟨c0, c1, c2⟩ := bl3 hT1
  have H1 : Hid _ := And.intro hbw1 (And.intro hT1 hA1)
  clear hb1 hbw1 hT1 hA1
  by_cases h9 : 9 < M
  · have : R = false := by rw [HR.out.1, if_pos h9]
    subst this
    go_wp2_with fail
    go_ret
    exact ⟨rfl, H1.out.1⟩
  have hR3 : R = (if 1 < (l.length : Int) - sc ∧ some d0 = some 0 then false else if 0 < sc ∧ some d1 = some 0 then false else (!neg || !N)) := by rw [HR.out.1, if_neg h9]
  have HR3 : Hid _ := hR3
  clear hR3
  go_wp2_with fail
  refine Calls.mono H1.out.2.2 ?_
  rintro e w2 ⟨rfl, hb2⟩
  have hbw2 := H1.out.1.trans (hb2.mono H1.out.1.size)
  have hT2 := (hb2.block _ (lt_of H1.out.2.1)).trans H1.out.2.1
  have hN2 := HH.out.2.2.2.2.2.1 _ hbw2
  have x0 := (hbw2.cell (p := ⟨g, o, none⟩) hg).trans HR.out.2.2.1
  have x1 := (hbw2.cell (p := ⟨g, o + (l.length - 1), none⟩) hg).trans HR.out.2.2.2
  clear c0 c1 c2
  obtain ⟨c0, c1, c2⟩ := bl3 hT2
  have H2 : Hid _ := And.intro hbw2 (And.intro hT2 hN2)
  clear hb2 hbw2 hT2 hN2
  have hsl : ¬ 1 < (l.length : Int) - sc ∨ (1 < (l.length : Int) - sc ∧ d0 ≠ 0) ∨ (1 < (l.length : Int) - sc ∧ d0 = 0) := by omega
  have hlz : ¬ 0 < sc ∨ (0 < sc ∧ d1 ≠ 0) ∨ (0 < sc ∧ d1 = 0) := by omega
  rcases hsl with p1 | ⟨p1, p2⟩ | ⟨p1, p2⟩
  case' inr.inr =>
    have : R = false := by rw [HR3.out, if_pos ⟨p1, by rw [p2]⟩]
    subst this
    subst p2
    go_wp2_with fail
    go_ret
    exact ⟨rfl, H2.out.1⟩
  case' inl =>
    have hR4 : R = (if 0 < sc ∧ some d1 = some 0 then false else (!neg || !N)) := by rw [HR3.out, if_neg (fun q => p1 q.1)]
  case' inr.inl =>
    have hR4 : R = (if 0 < sc ∧ some d1 = some 0 then false else (!neg || !N)) := by rw [HR3.out, if_neg (fun q => p2 (by simpa using q.2))]
    have p2b : (d0 == 0) = false := by simpa using p2
    clear p2
  all_goals
    have HR4 : Hid _ := hR4
    clear hR4
    rcases hlz with q1 | ⟨q1, q2⟩ | ⟨q1, q2⟩
    case' inr.inr =>
      have : R = false := by rw [HR4.out, if_pos ⟨q1, by rw [q2]⟩]
      subst this
      subst q2
      go_wp2_with fail
      go_ret
      exact ⟨rfl, H2.out.1⟩
    case' inl =>
      have hR5 : R = (!neg || !N) := by rw [HR4.out, if_neg (fun r => q1 r.1)]
    case' inr.inl =>
      have hR5 : R = (!neg || !N) := by rw [HR4.out, if_neg (fun r => q2 (by simpa using r.2))]
      have q2b : (d1 == 0) = false := by simpa using q2
      clear q2
    all_goals
      subst hR5
      cases neg
      · go_wp2_with fail
        go_ret
        exact ⟨rfl, H2.out.1⟩
      · go_wp2_with fail
        refine Calls.mono H2.out.2.2 ?_
        rintro e w3 ⟨rfl, hb3⟩
        have H3 : Hid _ := H2.out.1.trans (hb3.mono H2.out.1.size)
        clear hb3
        go_wp2_with fail
        go_ret
        exact ⟨rfl, H3.out⟩
theorem tot_pr {n : Nm} (h : CN n) : totS n.2.1 n.2.2 = if 0 < n.2.2 ∧ n.2.1.head? = some 0 then (n.2.1.length : Int) - 1 else n.2.1.length := by
  unfold totS
  have h1 := h.1.hd
  by_cases q : 0 < n.2.2 ∧ n.2.1.head? = some 0
  · rw [if_pos q, if_pos ⟨q.1, by rcases h1 with r | r; exact r; exact absurd q.2 r, q.2⟩]
  · rw [if_neg q, if_neg (fun r => q ⟨r.1, r.2.2⟩)]
theorem right_nm {w : World} {v : Value} {n : Nm} (h : NmR w v n) : Calls Tryz.prog 54 #[nmV n.1 v n.2.2] w fun e w' => e = .returned (.bool true) ∧ Below w.heap.size w w' := by
  have := right_p h.bt n.1 n.2.2 (by omega) (by have := h.cn.1.len; have := h.le; omega)
  rwa [rg_ok h.cn h.le] at this
end Go.Proofs.YtgaegajcejpmdaaGreatDoor.Dc
