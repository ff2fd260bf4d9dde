/- The second telling's reader: zone, walked. -/
import Derived.Test.YtijcbgjlofcdfaaJ15
namespace Go.Proofs.Ytijcbgjlofcdfaa
open Go.RowKit
set_option linter.unusedVariables false

set_option maxHeartbeats 2000000 in
theorem zone_r (X Y : Nat) (s : ByteArray) (p : Nat) (b : Bool) (k y m d sc n : Int) (w : World) (h : ZS w w X Y s p b ⟨k, y, m, d, sc, n, false, 0⟩) (hs : s.size ≤ maxLen) : Calls Try.prog 33 #[.pointer (some ⟨X, 0, none⟩), .pointer (some ⟨Y, 0, none⟩)] w fun e w' => ZnQ X Y s p b ⟨k, y, m, d, sc, n, false, 0⟩ w e w' := by
  have hnum := hs
  unfold maxLen at hnum
  obtain ⟨g0, g1, g2, f0, f1, f2⟩ := h.x.cells
  obtain ⟨⟨m6, m7⟩, n6, n7⟩ := h.cells
  have hle := h.le
  have HX : Hid _ := h
  clear h
  cases b
  · by_cases hpe : p = s.size
    · have d1 : ((p : Int) == (s.size : Int)) = true := by simp; omega
      have hZ := zn_nil (s := s) (p := p) (by omega)
      have HZ : Hid _ := hZ
      clear hZ
      go_enter Try.func33, Try.ntmps33
      go_wp2_with fail
      go_quiet (fail)
      go_wp2_with fail
      refine bodyPost_ret (v := .tuple #[]) (by simp [results, Try.results33, go_sem]) rfl ?_
      exact ⟨p, false, false, 0, rfl, HX.out.drewN _, fun h => h, by omega, by omega, fun _ => ⟨fun x e => by rw [HZ.out] at e; obtain rfl := Option.some.inj e; exact ⟨rfl, hpe, rfl, rfl⟩, fun e => by rw [HZ.out] at e; simp at e⟩⟩
    · have d1 : ((p : Int) == (s.size : Int)) = false := by simp; omega
      have hlt : p < s.size := by omega
      go_enter Try.func33, Try.ntmps33
      go_wp2_with fail
      go_quiet (fail)
      go_upto_region 2 with fail
      obtain ⟨W, hW, HZ0⟩ := ZS.ex ((HX.out.drewN nq).hz true)
      rw [hW]
      clear hW g0 g1 g2 f0 f1 f2 m6 m7 n6 n7
      have q1 := is_r X s p false 90 W HZ0.x hs
      generalize hI : isB (bl s) p 90 = I at q1
      have HZ : Hid _ := And.intro HZ0 (And.intro q1 hI)
      clear HZ0 q1 hI HX
      cases I
      · go_wp2_with fail
        refine Calls.mono HZ.out.2.1 ?_
        rintro e w1 ⟨rfl, q, rfl⟩
        have HA : Hid _ := HZ.out.1.drewN q
        generalize W.drewN q = W1 at *
        have q2 := is_r X s p false 45 W1 HA.out.x hs
        generalize hJ : isB (bl s) p 45 = J at q2
        have HJ : Hid _ := And.intro q2 hJ
        clear q2 hJ
        cases J
        · go_wp2_with fail
          refine Calls.mono HJ.out.1 ?_
          rintro e w2 ⟨rfl, q2, rfl⟩
          have HB : Hid _ := HA.out.drewN q2
          generalize W1.drewN q2 = W2 at *
          have q3 := is_r X s p false 43 W2 HB.out.x hs
          generalize hL : isB (bl s) p 43 = L at q3
          have HL : Hid _ := And.intro q3 hL
          clear q3 hL
          cases L
          · go_wp2_with fail
            refine Calls.mono HL.out.1 ?_
            rintro e w3 ⟨rfl, q3, rfl⟩
            obtain ⟨g0, g1, g2, f0, f1, f2⟩ := (ZS.drewN HB.out q3).x.cells
            have hno := zn_no hlt HZ.out.2.2 HJ.out.2 HL.out.2
            have HN : Hid _ := hno
            clear hno
            go_wp2_with fail
            refine bodyPost_ret (v := .tuple #[]) (by simp [results, Try.results33, go_sem]) rfl ?_
            exact ⟨p, true, true, 0, rfl, (ZS.drewN HB.out q3).bad, fun _ => rfl, by omega, by omega, fun _ => ⟨fun x e => by rw [HN.out] at e; simp at e, fun _ => .inl rfl⟩⟩
          · go_wp2_with fail
            refine Calls.mono HL.out.1 ?_
            rintro e w3 ⟨rfl, q3, rfl⟩
            have hzs := zn_S hlt HZ.out.2.2 false HJ.out.2 (.inr HL.out.2)
            have HC : Hid _ := HB.out.drewN q3
            generalize W2.drewN q3 = W3 at *
            obtain ⟨g0, g1, g2, f0, f1, f2⟩ := HC.out.x.cells
            go_upto_region 8 with fail
            obtain ⟨W4, hW4, HD0⟩ := ZS.ex (ZS.at HC.out (p + 1) hlt)
            rw [show (((p + 1 : Nat) : Int)) = (p : Int) + 1 from rfl] at hW4
            rw [hW4]
            clear hW4 g0 g1 g2 f0 f1 f2
            have HD : Hid _ := And.intro HD0 hzs
            clear HD0 hzs
            go_wp2_with fail
            refine Calls.mono (in_r X s (p + 1) false 0 14 _ HD.out.1.x hs HD.out.1.le) ?_
            rintro e w1 ⟨p1, b1, hh, rfl, r1, h0, h1, k1⟩
            have H1 : Hid _ := And.intro (HD.out.1.rp r1) (And.intro r1 k1)
            clear r1 k1
            go_wp2_with fail
            refine Calls.mono (take_r X s p1 b1 58 _ H1.out.1.x hs H1.out.1.le) ?_
            rintro e w2 ⟨p2, b2, rfl, r2, k2⟩
            have H2 : Hid _ := And.intro (H1.out.1.rp r2) (And.intro r2 k2)
            clear r2 k2
            go_wp2_with fail
            refine Calls.mono (in_r X s p2 b2 0 59 _ H2.out.1.x hs H2.out.1.le) ?_
            rintro e w3 ⟨p3, b3, nn, rfl, r3, n0, n1, k3⟩
            have H3 : Hid _ := And.intro (H2.out.1.rp r3) (And.intro r3 k3)
            clear r3 k3
            obtain ⟨g0, g1, g2, f0, f1, f2⟩ := H3.out.1.x.cells
            obtain ⟨⟨m6, m7⟩, n6, n7⟩ := H3.out.1.cells
            have hne := H3.out.1.ne
            have HE : Hid (∀ w' b4 V, ZS w w' X Y s p3 b4 ⟨k, y, m, d, sc, n, true, V⟩ → V = 60 * hh + nn → (b4 = if hh = 14 ∧ 0 < nn then true else b3) → ZnQ X Y s p false ⟨k, y, m, d, sc, n, false, 0⟩ w (.returned (.tuple #[])) w') := (fun w' b4 V z4 hV h4 =>
              ⟨p3, b4, true, V, rfl, z4, fun h => absurd h (by simp), by omega, by omega, fun _ => by
                rw [HD.out.2, hV]; exact zn_ch (neg := false) H3.out.1.le (H1.out.2.2 (by simp)) H2.out.2.2 H3.out.2.2 H2.out.2.1.st H3.out.2.1.st h4⟩ : ∀ w' b4 V, ZS w w' X Y s p3 b4 ⟨k, y, m, d, sc, n, true, V⟩ → V = 60 * hh + nn → (b4 = if hh = 14 ∧ 0 < nn then true else b3) → ZnQ X Y s p false ⟨k, y, m, d, sc, n, false, 0⟩ w (.returned (.tuple #[])) w')
            by_cases c1 : hh = 14
            · subst c1
              by_cases c2 : 0 < nn
              · have d2 : decide (0 < nn) = true := by simpa using c2
                go_wp2_with fail
                refine bodyPost_end (v := .tuple #[]) (by simp [results, Try.results33, go_sem]) rfl ?_
                exact HE.out _ true _ (ZS.z (ZS.bad H3.out.1) _) (by omega) (by simp [show 0 < nn by omega])
              · have d2 : decide (0 < nn) = false := by simpa using c2
                go_wp2_with fail
                refine bodyPost_end (v := .tuple #[]) (by simp [results, Try.results33, go_sem]) rfl ?_
                exact HE.out _ b3 _ (ZS.z H3.out.1 _) (by omega) (by simp [show ¬ 0 < nn by omega])
            · have d1 : (hh == 14) = false := by simpa using c1
              go_wp2_with fail
              refine bodyPost_end (v := .tuple #[]) (by simp [results, Try.results33, go_sem]) rfl ?_
              exact HE.out _ b3 _ (ZS.z H3.out.1 _) (by omega) (by simp [c1])
        · go_wp2_with fail
          refine Calls.mono HJ.out.1 ?_
          rintro e w2 ⟨rfl, q2, rfl⟩
          have hzs := zn_S hlt HZ.out.2.2 true HJ.out.2 (.inl rfl)
          have HC : Hid _ := HA.out.drewN q2
          generalize W1.drewN q2 = W3 at *
          obtain ⟨g0, g1, g2, f0, f1, f2⟩ := HC.out.x.cells
          go_upto_region 8 with fail
          obtain ⟨W4, hW4, HD0⟩ := ZS.ex (ZS.at HC.out (p + 1) hlt)
          rw [show (((p + 1 : Nat) : Int)) = (p : Int) + 1 from rfl] at hW4
          rw [hW4]
          clear hW4 g0 g1 g2 f0 f1 f2
          have HD : Hid _ := And.intro HD0 hzs
          clear HD0 hzs
          go_wp2_with fail
          refine Calls.mono (in_r X s (p + 1) false 0 14 _ HD.out.1.x hs HD.out.1.le) ?_
          rintro e w1 ⟨p1, b1, hh, rfl, r1, h0, h1, k1⟩
          have H1 : Hid _ := And.intro (HD.out.1.rp r1) (And.intro r1 k1)
          clear r1 k1
          go_wp2_with fail
          refine Calls.mono (take_r X s p1 b1 58 _ H1.out.1.x hs H1.out.1.le) ?_
          rintro e w2 ⟨p2, b2, rfl, r2, k2⟩
          have H2 : Hid _ := And.intro (H1.out.1.rp r2) (And.intro r2 k2)
          clear r2 k2
          go_wp2_with fail
          refine Calls.mono (in_r X s p2 b2 0 59 _ H2.out.1.x hs H2.out.1.le) ?_
          rintro e w3 ⟨p3, b3, nn, rfl, r3, n0, n1, k3⟩
          have H3 : Hid _ := And.intro (H2.out.1.rp r3) (And.intro r3 k3)
          clear r3 k3
          obtain ⟨g0, g1, g2, f0, f1, f2⟩ := H3.out.1.x.cells
          obtain ⟨⟨m6, m7⟩, n6, n7⟩ := H3.out.1.cells
          have hne := H3.out.1.ne
          have HE : Hid (∀ w' b4 V, ZS w w' X Y s p3 b4 ⟨k, y, m, d, sc, n, true, V⟩ → V = -(60 * hh + nn) → (b4 = if hh = 14 ∧ 0 < nn then true else b3) → ZnQ X Y s p false ⟨k, y, m, d, sc, n, false, 0⟩ w (.returned (.tuple #[])) w') := (fun w' b4 V z4 hV h4 =>
            ⟨p3, b4, true, V, rfl, z4, fun h => absurd h (by simp), by omega, by omega, fun _ => by
              rw [HD.out.2, hV]; exact zn_ch (neg := true) H3.out.1.le (H1.out.2.2 (by simp)) H2.out.2.2 H3.out.2.2 H2.out.2.1.st H3.out.2.1.st h4⟩ : ∀ w' b4 V, ZS w w' X Y s p3 b4 ⟨k, y, m, d, sc, n, true, V⟩ → V = -(60 * hh + nn) → (b4 = if hh = 14 ∧ 0 < nn then true else b3) → ZnQ X Y s p false ⟨k, y, m, d, sc, n, false, 0⟩ w (.returned (.tuple #[])) w')
          by_cases c1 : hh = 14
          · subst c1
            by_cases c2 : 0 < nn
            · have d2 : decide (0 < nn) = true := by simpa using c2
              go_wp2_with fail
              refine bodyPost_end (v := .tuple #[]) (by simp [results, Try.results33, go_sem]) rfl ?_
              exact HE.out _ true _ (ZS.z (ZS.z (ZS.bad H3.out.1) _) _) (by omega) (by simp [show 0 < nn by omega])
            · have d2 : decide (0 < nn) = false := by simpa using c2
              go_wp2_with fail
              refine bodyPost_end (v := .tuple #[]) (by simp [results, Try.results33, go_sem]) rfl ?_
              exact HE.out _ b3 _ (ZS.z (ZS.z H3.out.1 _) _) (by omega) (by simp [show ¬ 0 < nn by omega])
          · have d1 : (hh == 14) = false := by simpa using c1
            go_wp2_with fail
            refine bodyPost_end (v := .tuple #[]) (by simp [results, Try.results33, go_sem]) rfl ?_
            exact HE.out _ b3 _ (ZS.z (ZS.z H3.out.1 _) _) (by omega) (by simp [c1])
      · go_wp2_with fail
        refine Calls.mono HZ.out.2.1 ?_
        rintro e w1 ⟨rfl, q, rfl⟩
        obtain ⟨g0, g1, g2, f0, f1, f2⟩ := (ZS.drewN HZ.out.1 q).x.cells
        have hz := zn_Z hlt HZ.out.2.2
        have HN : Hid _ := hz
        clear hz
        go_wp2_with fail
        refine bodyPost_ret (v := .tuple #[]) (by simp [results, Try.results33, go_sem]) rfl ?_
        refine ⟨p + 1, false, true, 0, rfl, (ZS.drewN HZ.out.1 q).at (p + 1) hlt, fun h => h, by omega, by omega, fun _ => ⟨fun x e => ?_, fun e => ?_⟩⟩
        · rw [HN.out] at e
          split at e
          · obtain rfl := Option.some.inj e
            exact ⟨rfl, by omega, rfl, rfl⟩
          · simp at e
        · rw [HN.out] at e
          split at e
          · simp at e
          · exact .inr (by omega)
  · go_enter Try.func33, Try.ntmps33
    go_wp2_with fail
    go_quiet (fail)
    go_wp2_with fail
    refine bodyPost_ret (v := .tuple #[]) (by simp [results, Try.results33, go_sem]) rfl ?_
    exact ⟨p, true, false, 0, rfl, HX.out.drewN _, fun h => h, by omega, by omega, fun h => absurd h (by simp)⟩
end Go.Proofs.Ytijcbgjlofcdfaa
