/- The second telling's reader: part. -/
import Derived.Test.YtijcbgjlofcdfaaJ15
namespace Go.Proofs.Ytijcbgjlofcdfaa
open Go.RowKit
set_option linter.unusedVariables false

def PtQ (X : Nat) (s : ByteArray) (p : Nat) (b : Bool) (c : Int) (w : World) (e : Ending) (w' : World) : Prop :=
  ∃ (p' : Nat) (b' : Bool) (v : Int) (t : Bool), e = .returned (.tuple #[.int .i64 v, .bool t]) ∧ RP X s b w w' p' b' ∧ 0 ≤ v ∧ v < 1000000000 ∧
    (b = false → StV (ptB c ((bl s).drop p)) s p' b' (v, t))
theorem pt_is (s : ByteArray) (p : Nat) (c : Int) : ptB c ((bl s).drop p) = if dgs ((bl s).drop p) = 0 ∨ isB (bl s) (p + dgs ((bl s).drop p)) c = false then some ((0, false), (bl s).drop p) else if 9 < dgs ((bl s).drop p) then none else some ((dvl (((bl s).drop p).take (dgs ((bl s).drop p))), true), (bl s).drop (p + dgs ((bl s).drop p) + 1)) := by
  have h : (isB (bl s) (p + dgs ((bl s).drop p)) c = false) = ((((bl s).drop p).drop (dgs ((bl s).drop p))).head? ≠ some c) := by unfold isB; rw [List.drop_drop]; simp
  simp only [h]
  unfold ptB
  rw [List.drop_drop (i := dgs ((bl s).drop p) + 1)]
  rfl
set_option maxHeartbeats 2000000 in
theorem part_r (X : Nat) (s : ByteArray) (p : Nat) (b : Bool) (c : Int) (w : World) (hx : RdAt w X s p b) (hs : s.size ≤ maxLen) (hp : p ≤ s.size) : Calls Try.prog 37 #[.pointer (some ⟨X, 0, none⟩), .int .u8 c] w fun e w' => PtQ X s p b c w e w' := by
  have hnum := hs
  unfold maxLen at hnum
  have q1 := digits_r X s p b w hx hs hp
  have q3 := fun (W' : World) (h : RdAt W' X s p false) (h9 : dgs ((bl s).drop p) ≤ 9) => number_ok X s p (dgs ((bl s).drop p)) W' h hs hp h9
  unfold NmP at q3
  have hY := pt_is s p c
  have hKl := dgs_len ((bl s).drop p)
  rw [dr_len] at hKl
  have hvb : dgs ((bl s).drop p) ≤ 9 → 0 ≤ dvl (((bl s).drop p).take (dgs ((bl s).drop p))) ∧ dvl (((bl s).drop p).take (dgs ((bl s).drop p))) < 1000000000 := fun h => dvl_bd (Nat.le_refl _) h
  obtain ⟨v, hv⟩ : ∃ v, dvl (((bl s).drop p).take (dgs ((bl s).drop p))) = v := ⟨_, rfl⟩
  rw [hv] at hY hvb q3
  clear hv
  generalize dgs ((bl s).drop p) = K at *
  have hfx : ∀ (q : Nat), RdAt (w.drewN q) X s p b := fun q => hx.drew q
  have HX : Hid _ := And.intro hfx (And.intro q1 (And.intro q3 hY))
  obtain ⟨g0, g1, g2, f0, f1, f2⟩ := hx.cells
  clear hfx q1 q3 hY hx
  cases b
  · by_cases c1 : K = 0
    · subst c1
      have hP : ptB c ((bl s).drop p) = some ((0, false), (bl s).drop p) := by rw [HX.out.2.2.2, if_pos (.inl rfl)]
      have HP : Hid _ := hP
      clear hP
      go_enter Try.func37, Try.ntmps37
      go_wp2_with fail
      refine Calls.mono HX.out.2.1 ?_
      rintro e w1 ⟨rfl, q, rfl⟩
      go_wp2_with fail
      go_quiet (fail)
      go_wp2_with fail
      go_ret2
      exact ⟨p, false, 0, false, rfl, ⟨HX.out.1 0, hp, ((Fro.refl (fun i => i = X) w).drewN _).drewN _, fun h => h⟩, by omega, by omega, fun _ => ⟨fun x r e => by rw [HP.out] at e; simp at e; exact ⟨rfl, e.1, e.2.symm⟩, fun e => by rw [HP.out] at e; simp at e⟩⟩
    · obtain ⟨P, hPK⟩ : ∃ P : Nat, p + K = P := ⟨_, rfl⟩
      have hsum : (p : Int) + (K : Int) = (P : Int) := by omega
      have hwr : IntKind.i64.wrap ((p : Int) + (K : Int)) = (P : Int) := by rw [IntKind.wrap_i64]; omega
      have d1 : ((K : Int) == 0) = false := by simp; omega
      by_cases c2 : s.size ≤ P
      · have d2 : decide ((s.size : Int) ≤ (P : Int)) = true := by simp; omega
        have hP : ptB c ((bl s).drop p) = some ((0, false), (bl s).drop p) := by rw [HX.out.2.2.2, if_pos (.inr (by rw [hPK]; exact isB_no c2 c))]
        have HP : Hid _ := hP
        clear hP
        go_enter Try.func37, Try.ntmps37
        go_wp2_with fail
        refine Calls.mono HX.out.2.1 ?_
        rintro e w1 ⟨rfl, q, rfl⟩
        go_wp2_with fail
        go_quiet (fail)
        go_wp2_with fail
        go_ret2
        exact ⟨p, false, 0, false, rfl, ⟨HX.out.1 0, hp, ((Fro.refl (fun i => i = X) w).drewN _).drewN _, fun h => h⟩, by omega, by omega, fun _ => ⟨fun x r e => by rw [HP.out] at e; simp at e; exact ⟨rfl, e.1, e.2.symm⟩, fun e => by rw [HP.out] at e; simp at e⟩⟩
      · have d2 : decide ((s.size : Int) ≤ (P : Int)) = false := by simp; omega
        have hPs : P < s.size := by omega
        have hC := isB_at hPs c
        have hY2 : ptB c ((bl s).drop p) = if K = 0 ∨ isB (bl s) P c = false then some ((0, false), (bl s).drop p) else if 9 < K then none else some ((v, true), (bl s).drop (P + 1)) := by rw [HX.out.2.2.2, hPK]
        have HY2 : Hid _ := hY2
        clear hY2
        generalize hCC : s[P] = C at *
        by_cases c3 : (C.toNat : Int) = c
        · have d3 : ((C.toNat : Int) != c) = false := by simpa using c3
          have d3' : ((C.toNat : Int) == c) = true := by simpa using c3
          rw [d3'] at hC
          have hn2 : ¬ (K = 0 ∨ isB (bl s) P c = false) := fun q => q.elim c1 (fun q => by rw [hC] at q; simp at q)
          by_cases c4 : 9 < K
          · have d4 : decide (9 < (K : Int)) = true := by simp; omega
            have hP : ptB c ((bl s).drop p) = none := by rw [HY2.out, if_neg hn2, if_pos c4]
            have HP : Hid _ := hP
            clear hP hC hn2 c3 d3' hPK
            go_enter Try.func37, Try.ntmps37
            go_wp2_with fail
            refine Calls.mono HX.out.2.1 ?_
            rintro e w1 ⟨rfl, q, rfl⟩
            go_wp2_with fail
            go_quiet (fail)
            go_wp2_with fail
            go_ret2
            exact ⟨p, true, 0, false, rfl, ⟨(HX.out.1 _).bad true, hp, ((Fro.refl (fun i => i = X) w).drewN _).set (Or.inl rfl) _, fun _ => rfl⟩, by omega, by omega, fun _ => ⟨fun x r e => by rw [HP.out] at e; simp at e, fun _ => rfl⟩⟩
          · have d4 : decide (9 < (K : Int)) = false := by simp; omega
            have hP : ptB c ((bl s).drop p) = some ((v, true), (bl s).drop (P + 1)) := by rw [HY2.out, if_neg hn2, if_neg c4]
            obtain ⟨hv0, hv1⟩ := hvb (by omega)
            have HP : Hid _ := And.intro hP hPK
            clear hP hC hn2 c3 d3' hPK
            go_enter Try.func37, Try.ntmps37
            go_wp2_with fail
            refine Calls.mono HX.out.2.1 ?_
            rintro e w1 ⟨rfl, q, rfl⟩
            go_wp2_with fail
            go_quiet (fail)
            go_wp2_with fail
            refine Calls.mono (HX.out.2.2.1 _ (HX.out.1 _) (by omega)) ?_
            rintro e w3 (⟨hd, rfl, hr⟩ | ⟨hd, rfl, hr⟩)
            · exact absurd hd (by omega)
            · rw [HP.out.2] at hr
              obtain ⟨g0', g1', g2', f0', f1', f2'⟩ := hr.x.cells
              have HRR : Hid _ := hr
              clear hr hd
              go_wp2_with fail
              go_ret2
              exact ⟨P + 1, false, v, true, rfl, ⟨HRR.out.x.at (P + 1), hPs, ((Fro.refl (fun i => i = X) w).drewN _).trans (HRR.out.fr.set (Or.inl rfl) _), fun h => h⟩, hv0, hv1, fun _ => ⟨fun x r e => by rw [HP.out.1] at e; simp at e; exact ⟨rfl, e.1, e.2.symm⟩, fun e => by rw [HP.out.1] at e; simp at e⟩⟩
        · have d3 : ((C.toNat : Int) != c) = true := by simpa using c3
          have d3' : ((C.toNat : Int) == c) = false := by simpa using c3
          rw [d3'] at hC
          have hP : ptB c ((bl s).drop p) = some ((0, false), (bl s).drop p) := by rw [HY2.out, if_pos (.inr hC)]
          have HP : Hid _ := hP
          clear hP hC c3 d3' hPK
          go_enter Try.func37, Try.ntmps37
          go_wp2_with fail
          refine Calls.mono HX.out.2.1 ?_
          rintro e w1 ⟨rfl, q, rfl⟩
          go_wp2_with fail
          go_quiet (fail)
          go_wp2_with fail
          go_ret2
          exact ⟨p, false, 0, false, rfl, ⟨HX.out.1 0, hp, ((Fro.refl (fun i => i = X) w).drewN _).drewN _, fun h => h⟩, by omega, by omega, fun _ => ⟨fun x r e => by rw [HP.out] at e; simp at e; exact ⟨rfl, e.1, e.2.symm⟩, fun e => by rw [HP.out] at e; simp at e⟩⟩
  · go_enter Try.func37, Try.ntmps37
    go_wp2_with fail
    refine Calls.mono HX.out.2.1 ?_
    rintro e w1 ⟨rfl, q, rfl⟩
    go_wp2_with fail
    go_quiet (fail)
    go_wp2_with fail
    go_ret2
    exact ⟨p, true, 0, false, rfl, ⟨HX.out.1 0, hp, ((Fro.refl (fun i => i = X) w).drewN _).drewN _, fun h => h⟩, by omega, by omega, fun h => absurd h (by simp)⟩
end Go.Proofs.Ytijcbgjlofcdfaa
