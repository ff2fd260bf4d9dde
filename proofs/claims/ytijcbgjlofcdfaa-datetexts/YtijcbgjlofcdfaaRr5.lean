/- The second telling's reader: year. -/
import Derived.Test.YtijcbgjlofcdfaaJ12
namespace Go.Proofs.Ytijcbgjlofcdfaa
open Go.RowKit
set_option linter.unusedVariables false

theorem yr_is (s : ByteArray) (p p1 : Nat) (neg : Bool) (h : isB (bl s) p 45 = neg) (hp : p1 = if neg = true then p + 1 else p) : yrB ((bl s).drop p) =
    if dgs ((bl s).drop p1) < 4 ∨ 9 < dgs ((bl s).drop p1) ∨ (4 < dgs ((bl s).drop p1) ∧ isB (bl s) p1 48 = true) then none
    else if dvl (((bl s).drop p1).take (dgs ((bl s).drop p1))) = 0 then none
    else some (if neg = true then - dvl (((bl s).drop p1).take (dgs ((bl s).drop p1))) else dvl (((bl s).drop p1).take (dgs ((bl s).drop p1))), (bl s).drop (p1 + dgs ((bl s).drop p1))) := by
  have ht : (if ((bl s).drop p).head? = some 45 then ((bl s).drop p).tail else (bl s).drop p) = (bl s).drop p1 := by
    unfold isB at h
    cases neg
    · rw [if_neg (by simpa using h), hp]; rfl
    · rw [if_pos (by simpa using h), hp, List.tail_drop]; rfl
  have hneg : (((bl s).drop p).head? = some 45) = (neg = true) := by
    unfold isB at h
    rw [← h]; simp
  unfold yrB
  dsimp only
  rw [ht]
  have h48 : (isB (bl s) p1 48 = true) = (((bl s).drop p1).head? = some 48) := by unfold isB; simp
  simp only [h48]
  split
  · rfl
  · unfold nmB
    rw [if_neg (Nat.lt_irrefl _), Option.bind_some, List.drop_drop]
    dsimp only
    split
    · rfl
    · simp only [hneg]
def YrP (X : Nat) (s : ByteArray) (p : Nat) (w : World) (e : Ending) (w' : World) : Prop :=
  ∃ (p' : Nat) (b' : Bool) (v : Int), e = .returned (.int .i64 v) ∧ RP X s false w w' p' b' ∧ -1000000000 < v ∧ v < 1000000000 ∧
    (∀ x r, yrB ((bl s).drop p) = some (x, r) → b' = false ∧ v = x ∧ r = (bl s).drop p') ∧ (yrB ((bl s).drop p) = none → b' = true)
set_option maxHeartbeats 2000000 in
theorem year_r (X : Nat) (s : ByteArray) (p : Nat) (w : World) (hx : RdAt w X s p false) (hs : s.size ≤ maxLen) (hp : p ≤ s.size) : Calls Try.prog 29 #[.pointer (some ⟨X, 0, none⟩)] w fun e w' => YrP X s p w e w' := by
  have q1 := is_r X s p false 45 w hx hs
  have hpl : isB (bl s) p 45 = true → p < s.size := fun h => by
    rcases Nat.lt_or_ge p s.size with h1 | h1
    · exact h1
    · rw [isB_no h1] at h; exact absurd h (by simp)
  have hnum := hs
  unfold maxLen at hnum
  have hyr := fun neg h => yr_is s p (if neg = true then p + 1 else p) neg h rfl
  obtain ⟨neg, hneg⟩ : ∃ neg, isB (bl s) p 45 = neg := ⟨_, rfl⟩
  have hY := hyr neg hneg
  rw [hneg] at q1 hpl
  clear hyr hneg
  have HX : Hid _ := And.intro hx (And.intro q1 hY)
  clear hx q1 hY
  cases neg
  · have hp1 : p ≤ s.size := hp
    go_enter Try.func29, Try.ntmps29
    go_wp2_with fail
    refine Calls.mono HX.out.2.1 ?_
    rintro e w1 ⟨rfl, q, rfl⟩
    obtain ⟨g0, g1, g2, f0, f1, f2⟩ := RdAt.cells (w := w) (X := X) (s := s) (p := p) (b := false) HX.out.1
    go_upto_region 4 with fail
    obtain ⟨W, hW⟩ : ∃ W, (w.drewN q) = W := ⟨_, rfl⟩
    rw [hW]
    have hx1 : RdAt W X s p false := by rw [← hW]; exact HX.out.1
    have hfr : Fro (fun i => i = X) w W := by rw [← hW]; exact (Fro.refl (fun i => i = X) w).drewN q
    clear hW g0 g1 g2 f0 f1 f2
    obtain ⟨YL, hYL⟩ : ∃ YL, yrB ((bl s).drop p) = YL := ⟨_, rfl⟩
    have hY : YL = if dgs ((bl s).drop (p)) < 4 ∨ 9 < dgs ((bl s).drop (p)) ∨ (4 < dgs ((bl s).drop (p)) ∧ isB (bl s) (p) 48 = true) then none else if dvl (((bl s).drop (p)).take (dgs ((bl s).drop (p)))) = 0 then none else some (dvl (((bl s).drop (p)).take (dgs ((bl s).drop (p)))), (bl s).drop (p + dgs ((bl s).drop (p)))) := by rw [← hYL]; exact HX.out.2.2
    have HYL : Hid _ := hYL
    clear hYL
    obtain ⟨P, hP⟩ : ∃ P : Nat, p = P := ⟨_, rfl⟩
    rw [hP] at hY hx1 hp1
    have hcast : (p : Int) = (P : Int) := by omega
    have q2 := digits_r X s P false W hx1 hs hp1
    have hKl := dgs_len ((bl s).drop P)
    rw [dr_len] at hKl
    have q3 := fun (W' : World) (h : RdAt W' X s P false) (h9 : dgs ((bl s).drop P) ≤ 9) => number_ok X s P (dgs ((bl s).drop P)) W' h hs hp1 h9
    have h48 : ∀ h : P < s.size, isB (bl s) P 48 = (((s[P]'h).toNat : Int) == 48) := fun h => isB_at h 48
    have hvb : dgs ((bl s).drop P) ≤ 9 → 0 ≤ dvl (((bl s).drop P).take (dgs ((bl s).drop P))) ∧ dvl (((bl s).drop P).take (dgs ((bl s).drop P))) < 1000000000 := fun h => dvl_bd (Nat.le_refl _) h
    unfold NmP at q3
    obtain ⟨v, hv⟩ : ∃ v, dvl (((bl s).drop P).take (dgs ((bl s).drop P))) = v := ⟨_, rfl⟩
    rw [hv] at hY hvb q3
    clear hv
    generalize dgs ((bl s).drop P) = K at *
    obtain ⟨g0, g1, g2, f0, f1, f2⟩ := hx1.cells
    have HZ : Hid _ := And.intro hx1 (And.intro hfr (And.intro hY (And.intro q2 q3)))
    clear hx1 hfr hY q2 q3
    go_wp2_with fail
    refine Calls.mono HZ.out.2.2.2.1 ?_
    rintro e w2 ⟨rfl, q', rfl⟩
    by_cases c1 : K < 4
    · have d1 : decide ((K : Int) < 4) = true := by simp; omega
      have hno : yrB ((bl s).drop p) = none := by rw [HYL.out, HZ.out.2.2.1, if_pos (.inl c1)]
      have HN : Hid _ := hno
      clear hno
      go_wp2_with fail
      go_quiet (fail)
      go_wp2_with fail
      go_ret
      exact ⟨P, true, 1, rfl, ⟨RdAt.bad (X := X) (s := s) (p := P) (b := false) (RdAt.drew (X := X) (s := s) (p := P) (b := false) HZ.out.1 _) true, hp1, (HZ.out.2.1.drewN _).set (Or.inl rfl) _, fun _ => rfl⟩, by omega, by omega, fun x r h => by rw [HN.out] at h; simp at h, fun _ => rfl⟩
    · have d1 : decide ((K : Int) < 4) = false := by simp; omega
      by_cases c2 : 9 < K
      · have d2 : decide (9 < (K : Int)) = true := by simp; omega
        have hno : yrB ((bl s).drop p) = none := by rw [HYL.out, HZ.out.2.2.1, if_pos (.inr (.inl c2))]
        have HN : Hid _ := hno
        clear hno
        go_wp2_with fail
        go_quiet (fail)
        go_wp2_with fail
        go_ret
        exact ⟨P, true, 1, rfl, ⟨RdAt.bad (X := X) (s := s) (p := P) (b := false) (RdAt.drew (X := X) (s := s) (p := P) (b := false) HZ.out.1 _) true, hp1, (HZ.out.2.1.drewN _).set (Or.inl rfl) _, fun _ => rfl⟩, by omega, by omega, fun x r h => by rw [HN.out] at h; simp at h, fun _ => rfl⟩
      · have d2 : decide (9 < (K : Int)) = false := by simp; omega
        obtain ⟨hvb0, hvb1⟩ := hvb (by omega)
        by_cases c3 : 4 < K
        · have d3 : decide (4 < (K : Int)) = true := by simp; omega
          have hPs : P < s.size := by omega
          have h48' := h48 hPs
          generalize hC : s[P] = C at *
          by_cases c4 : isB (bl s) P 48 = true
          · have d4 : ((C.toNat : Int) == 48) = true := by rw [← h48']; exact c4
            have hno : yrB ((bl s).drop p) = none := by rw [HYL.out, HZ.out.2.2.1, if_pos (.inr (.inr ⟨c3, c4⟩))]
            have HN : Hid _ := hno
            clear hno h48 h48' c4
            go_wp2_with fail
            go_quiet (fail)
            go_wp2_with fail
            go_ret
            exact ⟨P, true, 1, rfl, ⟨RdAt.bad (X := X) (s := s) (p := P) (b := false) (RdAt.drew (X := X) (s := s) (p := P) (b := false) HZ.out.1 _) true, hp1, (HZ.out.2.1.drewN _).set (Or.inl rfl) _, fun _ => rfl⟩, by omega, by omega, fun x r h => by rw [HN.out] at h; simp at h, fun _ => rfl⟩
          · have d4 : ((C.toNat : Int) == 48) = false := by rw [← h48']; simpa using c4
            have HNN : Hid _ := (fun q => q.elim c1 (fun q => q.elim c2 (fun q => c4 q.2)) : ¬ (K < 4 ∨ 9 < K ∨ (4 < K ∧ isB (bl s) P 48 = true)))
            clear h48 h48' c4
            go_wp2_with fail
            go_quiet (fail)
            go_wp2_with fail
            refine Calls.mono (HZ.out.2.2.2.2 _ (RdAt.drew (X := X) (s := s) (p := P) (b := false) HZ.out.1 _) (by omega)) ?_
            rintro e w3 (⟨hd, rfl, hr⟩ | ⟨hd, rfl, hr⟩)
            · exact absurd hd (by omega)
            · obtain ⟨g0', g1', g2', f0', f1', f2'⟩ := hr.x.cells
              have HRR : Hid _ := hr
              clear hr hd
              by_cases hv0 : v = 0
              · have kv : (v == 0) = true := by simpa using hv0
                have hno : yrB ((bl s).drop p) = none := by rw [HYL.out, HZ.out.2.2.1, if_neg HNN.out, if_pos hv0]
                have HN : Hid _ := hno
                clear hno
                go_wp2_with fail
                go_ret
                exact ⟨P + K, true, _, rfl, ⟨(RP.bad HRR.out).x, HRR.out.le, (HZ.out.2.1.drewN _).trans (RP.bad HRR.out).fr, fun _ => rfl⟩, by omega, by omega, fun x r h => by rw [HN.out] at h; simp at h, fun _ => rfl⟩
              · have kv : (v == 0) = false := by simpa using hv0
                have hsm : yrB ((bl s).drop p) = some (v, (bl s).drop (P + K)) := by rw [HYL.out, HZ.out.2.2.1, if_neg HNN.out, if_neg hv0]
                have HN : Hid _ := hsm
                clear hsm
                go_wp2_with fail
                go_ret
                exact ⟨P + K, false, _, rfl, ⟨HRR.out.x, HRR.out.le, (HZ.out.2.1.drewN _).trans HRR.out.fr, fun h => absurd h (by simp)⟩, by omega, by omega, fun x r h => by rw [HN.out] at h; simp at h; exact ⟨rfl, h.1, h.2.symm⟩, fun h => by rw [HN.out] at h; simp at h⟩
        · have d3 : decide (4 < (K : Int)) = false := by simp; omega
          have HNN : Hid _ := (fun q => q.elim c1 (fun q => q.elim c2 (fun q => c3 q.1)) : ¬ (K < 4 ∨ 9 < K ∨ (4 < K ∧ isB (bl s) P 48 = true)))
          clear h48
          go_wp2_with fail
          go_quiet (fail)
          go_wp2_with fail
          refine Calls.mono (HZ.out.2.2.2.2 _ (RdAt.drew (X := X) (s := s) (p := P) (b := false) HZ.out.1 _) (by omega)) ?_
          rintro e w3 (⟨hd, rfl, hr⟩ | ⟨hd, rfl, hr⟩)
          · exact absurd hd (by omega)
          · obtain ⟨g0', g1', g2', f0', f1', f2'⟩ := hr.x.cells
            have HRR : Hid _ := hr
            clear hr hd
            by_cases hv0 : v = 0
            · have kv : (v == 0) = true := by simpa using hv0
              have hno : yrB ((bl s).drop p) = none := by rw [HYL.out, HZ.out.2.2.1, if_neg HNN.out, if_pos hv0]
              have HN : Hid _ := hno
              clear hno
              go_wp2_with fail
              go_ret
              exact ⟨P + K, true, _, rfl, ⟨(RP.bad HRR.out).x, HRR.out.le, (HZ.out.2.1.drewN _).trans (RP.bad HRR.out).fr, fun _ => rfl⟩, by omega, by omega, fun x r h => by rw [HN.out] at h; simp at h, fun _ => rfl⟩
            · have kv : (v == 0) = false := by simpa using hv0
              have hsm : yrB ((bl s).drop p) = some (v, (bl s).drop (P + K)) := by rw [HYL.out, HZ.out.2.2.1, if_neg HNN.out, if_neg hv0]
              have HN : Hid _ := hsm
              clear hsm
              go_wp2_with fail
              go_ret
              exact ⟨P + K, false, _, rfl, ⟨HRR.out.x, HRR.out.le, (HZ.out.2.1.drewN _).trans HRR.out.fr, fun h => absurd h (by simp)⟩, by omega, by omega, fun x r h => by rw [HN.out] at h; simp at h; exact ⟨rfl, h.1, h.2.symm⟩, fun h => by rw [HN.out] at h; simp at h⟩
  · have hp1 : p + 1 ≤ s.size := hpl rfl
    go_enter Try.func29, Try.ntmps29
    go_wp2_with fail
    refine Calls.mono HX.out.2.1 ?_
    rintro e w1 ⟨rfl, q, rfl⟩
    obtain ⟨g0, g1, g2, f0, f1, f2⟩ := RdAt.cells (w := w) (X := X) (s := s) (p := p) (b := false) HX.out.1
    go_upto_region 4 with fail
    obtain ⟨W, hW⟩ : ∃ W, (w.drewN q).setCell ⟨X, 1, none⟩ (.int .i64 ((p : Int) + 1)) = W := ⟨_, rfl⟩
    rw [hW]
    have hx1 : RdAt W X s (p + 1) false := by rw [← hW]; exact RdAt.at (w := w.drewN q) (X := X) (s := s) (p := p) (b := false) HX.out.1 (p + 1)
    have hfr : Fro (fun i => i = X) w W := by rw [← hW]; exact ((Fro.refl (fun i => i = X) w).drewN q).set (Or.inl rfl) _
    clear hW g0 g1 g2 f0 f1 f2
    obtain ⟨YL, hYL⟩ : ∃ YL, yrB ((bl s).drop p) = YL := ⟨_, rfl⟩
    have hY : YL = if dgs ((bl s).drop (p + 1)) < 4 ∨ 9 < dgs ((bl s).drop (p + 1)) ∨ (4 < dgs ((bl s).drop (p + 1)) ∧ isB (bl s) (p + 1) 48 = true) then none else if dvl (((bl s).drop (p + 1)).take (dgs ((bl s).drop (p + 1)))) = 0 then none else some (- dvl (((bl s).drop (p + 1)).take (dgs ((bl s).drop (p + 1)))), (bl s).drop (p + 1 + dgs ((bl s).drop (p + 1)))) := by rw [← hYL]; exact HX.out.2.2
    have HYL : Hid _ := hYL
    clear hYL
    obtain ⟨P, hP⟩ : ∃ P : Nat, p + 1 = P := ⟨_, rfl⟩
    rw [hP] at hY hx1 hp1
    have hcast : (p : Int) + 1 = (P : Int) := by omega
    have q2 := digits_r X s P false W hx1 hs hp1
    have hKl := dgs_len ((bl s).drop P)
    rw [dr_len] at hKl
    have q3 := fun (W' : World) (h : RdAt W' X s P false) (h9 : dgs ((bl s).drop P) ≤ 9) => number_ok X s P (dgs ((bl s).drop P)) W' h hs hp1 h9
    have h48 : ∀ h : P < s.size, isB (bl s) P 48 = (((s[P]'h).toNat : Int) == 48) := fun h => isB_at h 48
    have hvb : dgs ((bl s).drop P) ≤ 9 → 0 ≤ dvl (((bl s).drop P).take (dgs ((bl s).drop P))) ∧ dvl (((bl s).drop P).take (dgs ((bl s).drop P))) < 1000000000 := fun h => dvl_bd (Nat.le_refl _) h
    unfold NmP at q3
    obtain ⟨v, hv⟩ : ∃ v, dvl (((bl s).drop P).take (dgs ((bl s).drop P))) = v := ⟨_, rfl⟩
    rw [hv] at hY hvb q3
    clear hv
    generalize dgs ((bl s).drop P) = K at *
    obtain ⟨g0, g1, g2, f0, f1, f2⟩ := hx1.cells
    have HZ : Hid _ := And.intro hx1 (And.intro hfr (And.intro hY (And.intro q2 q3)))
    clear hx1 hfr hY q2 q3
    go_wp2_with fail
    refine Calls.mono HZ.out.2.2.2.1 ?_
    rintro e w2 ⟨rfl, q', rfl⟩
    by_cases c1 : K < 4
    · have d1 : decide ((K : Int) < 4) = true := by simp; omega
      have hno : yrB ((bl s).drop p) = none := by rw [HYL.out, HZ.out.2.2.1, if_pos (.inl c1)]
      have HN : Hid _ := hno
      clear hno
      go_wp2_with fail
      go_quiet (fail)
      go_wp2_with fail
      go_ret
      exact ⟨P, true, 1, rfl, ⟨RdAt.bad (X := X) (s := s) (p := P) (b := false) (RdAt.drew (X := X) (s := s) (p := P) (b := false) HZ.out.1 _) true, hp1, (HZ.out.2.1.drewN _).set (Or.inl rfl) _, fun _ => rfl⟩, by omega, by omega, fun x r h => by rw [HN.out] at h; simp at h, fun _ => rfl⟩
    · have d1 : decide ((K : Int) < 4) = false := by simp; omega
      by_cases c2 : 9 < K
      · have d2 : decide (9 < (K : Int)) = true := by simp; omega
        have hno : yrB ((bl s).drop p) = none := by rw [HYL.out, HZ.out.2.2.1, if_pos (.inr (.inl c2))]
        have HN : Hid _ := hno
        clear hno
        go_wp2_with fail
        go_quiet (fail)
        go_wp2_with fail
        go_ret
        exact ⟨P, true, 1, rfl, ⟨RdAt.bad (X := X) (s := s) (p := P) (b := false) (RdAt.drew (X := X) (s := s) (p := P) (b := false) HZ.out.1 _) true, hp1, (HZ.out.2.1.drewN _).set (Or.inl rfl) _, fun _ => rfl⟩, by omega, by omega, fun x r h => by rw [HN.out] at h; simp at h, fun _ => rfl⟩
      · have d2 : decide (9 < (K : Int)) = false := by simp; omega
        obtain ⟨hvb0, hvb1⟩ := hvb (by omega)
        by_cases c3 : 4 < K
        · have d3 : decide (4 < (K : Int)) = true := by simp; omega
          have hPs : P < s.size := by omega
          have h48' := h48 hPs
          generalize hC : s[P] = C at *
          by_cases c4 : isB (bl s) P 48 = true
          · have d4 : ((C.toNat : Int) == 48) = true := by rw [← h48']; exact c4
            have hno : yrB ((bl s).drop p) = none := by rw [HYL.out, HZ.out.2.2.1, if_pos (.inr (.inr ⟨c3, c4⟩))]
            have HN : Hid _ := hno
            clear hno h48 h48' c4
            go_wp2_with fail
            go_quiet (fail)
            go_wp2_with fail
            go_ret
            exact ⟨P, true, 1, rfl, ⟨RdAt.bad (X := X) (s := s) (p := P) (b := false) (RdAt.drew (X := X) (s := s) (p := P) (b := false) HZ.out.1 _) true, hp1, (HZ.out.2.1.drewN _).set (Or.inl rfl) _, fun _ => rfl⟩, by omega, by omega, fun x r h => by rw [HN.out] at h; simp at h, fun _ => rfl⟩
          · have d4 : ((C.toNat : Int) == 48) = false := by rw [← h48']; simpa using c4
            have HNN : Hid _ := (fun q => q.elim c1 (fun q => q.elim c2 (fun q => c4 q.2)) : ¬ (K < 4 ∨ 9 < K ∨ (4 < K ∧ isB (bl s) P 48 = true)))
            clear h48 h48' c4
            go_wp2_with fail
            go_quiet (fail)
            go_wp2_with fail
            refine Calls.mono (HZ.out.2.2.2.2 _ (RdAt.drew (X := X) (s := s) (p := P) (b := false) HZ.out.1 _) (by omega)) ?_
            rintro e w3 (⟨hd, rfl, hr⟩ | ⟨hd, rfl, hr⟩)
            · exact absurd hd (by omega)
            · obtain ⟨g0', g1', g2', f0', f1', f2'⟩ := hr.x.cells
              have HRR : Hid _ := hr
              clear hr hd
              by_cases hv0 : v = 0
              · have kv : (v == 0) = true := by simpa using hv0
                have hno : yrB ((bl s).drop p) = none := by rw [HYL.out, HZ.out.2.2.1, if_neg HNN.out, if_pos hv0]
                have HN : Hid _ := hno
                clear hno
                go_wp2_with fail
                go_ret
                exact ⟨P + K, true, _, rfl, ⟨(RP.bad HRR.out).x, HRR.out.le, (HZ.out.2.1.drewN _).trans (RP.bad HRR.out).fr, fun _ => rfl⟩, by omega, by omega, fun x r h => by rw [HN.out] at h; simp at h, fun _ => rfl⟩
              · have kv : (v == 0) = false := by simpa using hv0
                have hsm : yrB ((bl s).drop p) = some (-v, (bl s).drop (P + K)) := by rw [HYL.out, HZ.out.2.2.1, if_neg HNN.out, if_neg hv0]
                have HN : Hid _ := hsm
                clear hsm
                go_wp2_with fail
                go_ret
                exact ⟨P + K, false, _, rfl, ⟨HRR.out.x, HRR.out.le, (HZ.out.2.1.drewN _).trans HRR.out.fr, fun h => absurd h (by simp)⟩, by omega, by omega, fun x r h => by rw [HN.out] at h; simp at h; exact ⟨rfl, h.1, h.2.symm⟩, fun h => by rw [HN.out] at h; simp at h⟩
        · have d3 : decide (4 < (K : Int)) = false := by simp; omega
          have HNN : Hid _ := (fun q => q.elim c1 (fun q => q.elim c2 (fun q => c3 q.1)) : ¬ (K < 4 ∨ 9 < K ∨ (4 < K ∧ isB (bl s) P 48 = true)))
          clear h48
          go_wp2_with fail
          go_quiet (fail)
          go_wp2_with fail
          refine Calls.mono (HZ.out.2.2.2.2 _ (RdAt.drew (X := X) (s := s) (p := P) (b := false) HZ.out.1 _) (by omega)) ?_
          rintro e w3 (⟨hd, rfl, hr⟩ | ⟨hd, rfl, hr⟩)
          · exact absurd hd (by omega)
          · obtain ⟨g0', g1', g2', f0', f1', f2'⟩ := hr.x.cells
            have HRR : Hid _ := hr
            clear hr hd
            by_cases hv0 : v = 0
            · have kv : (v == 0) = true := by simpa using hv0
              have hno : yrB ((bl s).drop p) = none := by rw [HYL.out, HZ.out.2.2.1, if_neg HNN.out, if_pos hv0]
              have HN : Hid _ := hno
              clear hno
              go_wp2_with fail
              go_ret
              exact ⟨P + K, true, _, rfl, ⟨(RP.bad HRR.out).x, HRR.out.le, (HZ.out.2.1.drewN _).trans (RP.bad HRR.out).fr, fun _ => rfl⟩, by omega, by omega, fun x r h => by rw [HN.out] at h; simp at h, fun _ => rfl⟩
            · have kv : (v == 0) = false := by simpa using hv0
              have hsm : yrB ((bl s).drop p) = some (-v, (bl s).drop (P + K)) := by rw [HYL.out, HZ.out.2.2.1, if_neg HNN.out, if_neg hv0]
              have HN : Hid _ := hsm
              clear hsm
              go_wp2_with fail
              go_ret
              exact ⟨P + K, false, _, rfl, ⟨HRR.out.x, HRR.out.le, (HZ.out.2.1.drewN _).trans HRR.out.fr, fun h => absurd h (by simp)⟩, by omega, by omega, fun x r h => by rw [HN.out] at h; simp at h; exact ⟨rfl, h.1, h.2.symm⟩, fun h => by rw [HN.out] at h; simp at h⟩
end Go.Proofs.Ytijcbgjlofcdfaa
