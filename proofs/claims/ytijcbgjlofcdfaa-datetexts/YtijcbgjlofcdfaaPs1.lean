/- The second telling's ParseSpan, walked. -/
import Derived.Test.YtijcbgjlofcdfaaPs0
import Derived.Deep.CutRange
namespace Go.Proofs.Ytijcbgjlofcdfaa
open Go.RowKit
set_option linter.unusedVariables false

/-- Behind the seconds. -/
def Cg (w : World) (s : ByteArray) (Z : Nat) (M D : Int) (p6 : Nat) (b6 : Bool) (v19 : Value) (wx : World) : Prop :=
  ∃ (p9 : Nat) (b9 : Bool) (sec na : Int), v19 = .int .i64 sec ∧ S1 w wx s p9 b9 Z ⟨M, D, na⟩ ∧ 0 ≤ sec ∧ sec < 1000000000 ∧ 0 ≤ na ∧ na < 1000000000 ∧ (b6 = true → b9 = true) ∧
    (p6 < s.size → b6 = false → TmV (scB ((bl s).drop p6)) s p9 b9 true (sec, na)) ∧ (¬ p6 < s.size → p9 = p6 ∧ b9 = b6 ∧ sec = 0 ∧ na = 0)
/-- Behind the number. -/
def Cn (w : World) (s : ByteArray) (Z : Nat) (M D : Int) (p6 K : Nat) (b7 : Bool) (V : Int) (v19 : Value) (wx : World) : Prop :=
  ∃ (P12 : Nat) (sec : Int), v19 = .int .i64 sec ∧ S1 w wx s P12 b7 Z ⟨M, D, 0⟩ ∧ 0 ≤ sec ∧ sec < 1000000000 ∧ (b7 = false → P12 = p6 + K ∧ sec = V ∧ ¬ (K < 1 ∨ 9 < K))
/-- Behind T. -/
def Ct (w : World) (s : ByteArray) (Z : Nat) (M : Int) (neg : Bool) (v12 : Value) (wx : World) : Prop :=
  ∃ (pq : Nat) (bq an : Bool) (sc na : Int), v12 = .bool an ∧ S1 w wx s pq bq Z ⟨M, sc, na⟩ ∧ 0 ≤ sc ∧ sc < 1000000000000000 ∧ 0 ≤ na ∧ na < 1000000000 ∧ TmV (prP (bl s)) s pq bq an (sgn neg ⟨M, sc, na⟩)
set_option maxRecDepth 8000 in
set_option maxHeartbeats 4000000 in
theorem parseSpan_r (s : ByteArray) (w : World) (hs : s.size ≤ maxLen) : Calls Try.prog 13 #[.string s] w fun e w' => PsQ (prP (bl s)) w e w' := by
  have hnum := hs
  unfold maxLen at hnum
  go_enter Try.func13, Try.ntmps13
  go_upto_region 2 with fail
  obtain ⟨W0, hW0, HP0'⟩ := S0.ex (S0.init w s)
  rw [hW0]
  have q1 := is_r (w.heap.size + 1) s 0 false 45 W0 HP0'.x hs
  have hpl : isB (bl s) 0 45 = true → 0 < s.size := fun h => by
    rcases Nat.lt_or_ge 0 s.size with h1 | h1
    · exact h1
    · rw [isB_no h1] at h; exact absurd h (by simp)
  obtain ⟨neg, hneg⟩ : ∃ neg, isB (bl s) 0 45 = neg := ⟨_, rfl⟩
  rw [hneg] at q1 hpl
  have HP0 : Hid _ := And.intro HP0' (And.intro q1 (And.intro hneg hpl))
  clear hW0 HP0' q1 hneg hpl
  obtain ⟨p0, hp0⟩ : ∃ p0 : Nat, p0 = if neg = true then 1 else 0 := ⟨_, rfl⟩
  have HN : Hid _ := hp0
  clear hp0
  go_wp2_with fail
  refine Calls.mono HP0.out.2.1 ?_
  rintro e w1 ⟨rfl, q, rfl⟩
  go_upto_if 26 with fail
  go_cut [] from 27 to 33 (fun wx => S0 w wx s p0 false)
  case first =>
    obtain ⟨g0, g1, g2, f0, f1, f2⟩ := (S0.drewN HP0.out.1 q).x.cells
    cases neg
    · go_wp2_with fail
      go_meet
      case rel =>
        rw [HN.out]
        exact S0.drewN HP0.out.1 q
    · go_wp2_with fail
      go_meet
      case rel =>
        rw [HN.out]
        exact (S0.drewN HP0.out.1 q).at 1 (HP0.out.2.2.2 (by simp))
  case rest =>
    have H0 : Hid _ := hcut
    clear hcut
    go_wp2_with fail
    refine Calls.mono (take_r (w.heap.size + 1) s p0 false 80 _ H0.out.x hs H0.out.le) ?_
    rintro e w1 ⟨p1, b1, rfl, r1, k1⟩
    have H1 : Hid _ := And.intro (H0.out.rp r1) (And.intro r1.st k1)
    clear r1 k1
    go_wp2_with fail
    refine Calls.mono (part_r (w.heap.size + 1) s p1 b1 89 _ H1.out.1.x hs H1.out.1.le) ?_
    rintro e w2 ⟨p2, b2, y, ya, rfl, r2, y0, y1, k2⟩
    have H2 : Hid _ := And.intro (H1.out.1.rp r2) (And.intro r2.st k2)
    clear r2 k2
    go_wp2_with fail
    refine Calls.mono (part_r (w.heap.size + 1) s p2 b2 77 _ H2.out.1.x hs H2.out.1.le) ?_
    rintro e w3 ⟨p3, b3, o, oa, rfl, r3, o0, o1, k3⟩
    have H3 : Hid _ := And.intro (H2.out.1.rp r3) (And.intro r3.st k3)
    clear r3 k3
    go_wp2_with fail
    refine Calls.mono (part_r (w.heap.size + 1) s p3 b3 68 _ H3.out.1.x hs H3.out.1.le) ?_
    rintro e w4 ⟨p4, b4, d, da, rfl, r4, d0, d1, k4⟩
    have H4 : Hid _ := And.intro (H3.out.1.rp r4) (And.intro r4.st k4)
    clear r4 k4
    go_upto_region 9 with fail
    go_cut [12] from 51 to 57 (fun v wx => v = .bool (ya || oa || da) ∧ wx = w4)
    case first =>
      cases ya <;> cases oa <;> cases da
      all_goals
        go_wp2_with fail
        go_meet
        case rel => exact ⟨rfl, rfl⟩
    case rest =>
      obtain ⟨rfl, hw⟩ := hcut
      have hw' := hw.symm
      clear hw
      subst hw'
      generalize hAN : (ya || oa || da) = an0
      have HAN : Hid _ := hAN
      clear hAN
      go_upto_region 11 with fail
      obtain ⟨W5, hW5, HS'⟩ := S1.ex (S1.mk' H4.out.1 ⟨12 * y + o, 86400 * d, 0⟩)
      rw [hW5]
      obtain ⟨Z, hZ⟩ : ∃ Z, w4.heap.size = Z := ⟨_, rfl⟩
      rw [hZ] at HS' ⊢
      have hCH : ∀ p' b' an t, (b4 = true → b' = true) → (b4 = false → TmV (if ((bl s).drop p4).head? = some 84 then tmB ((bl s).drop p4).tail else if (bl s).drop p4 = [] ∧ an0 = true then some (0, 0) else none) s p' b' an t) → TmV (prP (bl s)) s p' b' an (sgn neg ⟨12 * y + o, 86400 * d + t.1, t.2⟩) := fun p' b' an t t4 h => by
        have := HAN.out
        subst this
        exact ps_ch HP0.out.2.2.1 HN.out H1.out.2.2 H2.out.2.2 H3.out.2.2 H4.out.2.2 H2.out.2.1 H3.out.2.1 H4.out.2.1 t4 h
      obtain ⟨M, hM⟩ : ∃ M, 12 * y + o = M := ⟨_, rfl⟩
      obtain ⟨D, hD⟩ : ∃ D, 86400 * d = D := ⟨_, rfl⟩
      rw [hM, hD] at HS'
      simp only [hM, hD] at hCH
      have M0 : 0 ≤ M := by omega
      have M1 : M < 20000000000 := by omega
      have D0 : 0 ≤ D := by omega
      have D1 : D < 100000000000000 := by omega
      have q9 := is_r (w.heap.size + 1) s p4 b4 84 W5 HS'.s.x hs
      have hpl : isB (bl s) p4 84 = true → p4 < s.size := fun h => by
        rcases Nat.lt_or_ge p4 s.size with h1 | h1
        · exact h1
        · rw [isB_no h1] at h; exact absurd h (by simp)
      obtain ⟨T, hT⟩ : ∃ T, isB (bl s) p4 84 = T := ⟨_, rfl⟩
      rw [hT] at q9 hpl
      have HS : Hid _ := And.intro HS' (And.intro q9 (And.intro hT (And.intro hpl hCH)))
      clear hW5 HS' hZ hM hD hCH q9 hT hpl HAN H0 H1 H2 H3 H4 HP0 HN
      obtain ⟨TT, hTT⟩ : ∃ TT, (!b4 && T) = TT := ⟨_, rfl⟩
      have HT2 : Hid _ := hTT
      clear hTT
      go_cut [73] from 65 to 72 (fun v wx => v = .bool TT ∧ S1 w wx s p4 b4 Z ⟨M, D, 0⟩)
      case first =>
        obtain ⟨g0, g1, g2, f0, f1, f2⟩ := HS.out.1.s.x.cells
        cases b4
        · go_wp2_with fail
          refine Calls.mono HS.out.2.1 ?_
          rintro e w1 ⟨rfl, q, rfl⟩
          go_wp2_with fail
          go_meet
          case rel => exact ⟨by rw [← HT2.out]; simp, S1.drewN HS.out.1 q⟩
        · go_wp2_with fail
          go_meet
          case rel => exact ⟨by rw [← HT2.out]; simp, HS.out.1⟩
      case rest =>
        obtain ⟨rfl, hS6⟩ := hcut
        have H6 : Hid _ := hS6
        clear hS6
        go_upto_if 73 with fail
        go_cut [12, 14, 15, 16, 17, 18, 19, 20] from 74 to 144 (fun v v14 v15 v16 v17 v18 v19 v20 wx => Ct w s Z M neg v wx)
        case first =>
          cases TT
          · go_wp2_with fail
            go_meet
            case rel =>
              have hx : TmV (prP (bl s)) s p4 b4 an0 (sgn neg ⟨M, D, 0⟩) := by
                have := HS.out.2.2.2.2 p4 b4 an0 (0, 0) (fun q => q) (fun h4 => ps_noT H6.out.s.le h4 (by have h5 := HT2.out; have h6 := HS.out.2.2.1; rw [h4] at h5; rw [h6]; simpa using h5))
                simp only [Int.add_zero] at this
                exact this
              exact ⟨p4, b4, an0, D, 0, rfl, H6.out, by omega, by omega, by omega, by omega, hx⟩
          · obtain ⟨h4, hT1⟩ : b4 = false ∧ T = true := by
              have h5 := HT2.out
              first
                | exact h5
                | (simp at h5; exact h5)
            · subst h4
              subst hT1
              have hle : p4 + 1 ≤ s.size := HS.out.2.2.2.1 (by simp)
              have hTT := ps_T (s := s) (p4 := p4) (an := an0) HS.out.2.2.1
              have HTT : Hid _ := hTT
              clear hTT
              obtain ⟨g0, g1, g2, f0, f1, f2⟩ := H6.out.s.x.cells
              go_upto_region 13 with fail
              obtain ⟨W7, hW7, H7'⟩ := S1.ex (S1.at H6.out (p4 + 1) hle)
              rw [show (((p4 + 1 : Nat) : Int)) = (p4 : Int) + 1 from rfl] at hW7
              rw [hW7]
              have H7 : Hid _ := H7'
              clear hW7 H7' g0 g1 g2 f0 f1 f2 H6
              go_wp2_with fail
              refine Calls.mono (part_r (w.heap.size + 1) s (p4 + 1) false 72 _ H7.out.s.x hs H7.out.s.le) ?_
              rintro e w8 ⟨p5, b5, hh, ee, rfl, r8, hh0, hh1, k8⟩
              have H8 : Hid _ := And.intro (H7.out.rp r8) (And.intro r8.st k8)
              clear r8 k8
              go_wp2_with fail
              refine Calls.mono (part_r (w.heap.size + 1) s p5 b5 77 _ H8.out.1.s.x hs H8.out.1.s.le) ?_
              rintro e w9 ⟨p6, b6, mm, ff, rfl, r9, mm0, mm1, k9⟩
              have H9 : Hid _ := And.intro (H8.out.1.rp r9) (And.intro r9.st k9)
              clear r9 k9
              go_upto_region 15 with fail
              obtain ⟨G, hG⟩ : ∃ G, decide (p6 < s.size) = G := ⟨_, rfl⟩
              have HG : Hid _ := hG
              clear hG
              go_cut [18] from 91 to 100 (fun v wx => v = .bool G ∧ S1 w wx s p6 b6 Z ⟨M, D, 0⟩)
              case first =>
                obtain ⟨g0, g1, g2, f0, f1, f2⟩ := H9.out.1.s.x.cells
                by_cases c : p6 < s.size
                · have d1 : decide ((p6 : Int) < (s.size : Int)) = true := by simp; omega
                  have hg : G = true := by rw [← HG.out]; simpa using c
                  subst hg
                  go_quiet (fail)
                  go_wp2_with fail
                  go_meet
                  case rel => exact ⟨rfl, S1.drewN H9.out.1 _⟩
                · have d1 : decide ((p6 : Int) < (s.size : Int)) = false := by simp; omega
                  have hg : G = false := by rw [← HG.out]; simpa using c
                  subst hg
                  go_quiet (fail)
                  go_wp2_with fail
                  go_meet
                  case rel => exact ⟨rfl, S1.drewN H9.out.1 _⟩
              case rest =>
                obtain ⟨rfl, hS10⟩ := hcut
                have H10 : Hid _ := hS10
                clear hS10
                go_upto_if 101 with fail
                go_cut [19, 20] from 102 to 120 (fun v v20 wx => Cg w s Z M D p6 b6 v wx)
                case first =>
                  cases G
                  · have hng : ¬ p6 < s.size := by have := HG.out; simpa using this
                    go_wp2_with fail
                    go_meet
                    case rel => exact ⟨p6, b6, 0, 0, rfl, H10.out, by omega, by omega, by omega, by omega, fun q => q, fun q => absurd q hng, fun _ => ⟨rfl, rfl, rfl, rfl⟩⟩
                  · have hlt : p6 < s.size := by have := HG.out; simpa using this
                    have q10 := digits_r (w.heap.size + 1) s p6 b6 _ H10.out.s.x hs H10.out.s.le
                    have hnok := fun (W' : World) (h : RdAt W' (w.heap.size + 1) s p6 false) (h9 : dgs ((bl s).drop p6) ≤ 9) => number_ok (w.heap.size + 1) s p6 (dgs ((bl s).drop p6)) W' h hs H10.out.s.le h9
                    unfold NmP at hnok
                    have hvb : dgs ((bl s).drop p6) ≤ 9 → 0 ≤ dvl (((bl s).drop p6).take (dgs ((bl s).drop p6))) ∧ dvl (((bl s).drop p6).take (dgs ((bl s).drop p6))) < 1000000000 := fun h => dvl_bd (Nat.le_refl _) h
                    have hKl := dgs_len ((bl s).drop p6)
                    rw [dr_len] at hKl
                    obtain ⟨V, hV⟩ : ∃ V, dvl (((bl s).drop p6).take (dgs ((bl s).drop p6))) = V := ⟨_, rfl⟩
                    rw [hV] at hnok hvb
                    obtain ⟨K, hK⟩ : ∃ K, dgs ((bl s).drop p6) = K := ⟨_, rfl⟩
                    rw [hK] at q10 hnok hvb hV hKl
                    have HQ : Hid _ := And.intro q10 (And.intro hnok (And.intro hK hV))
                    clear q10 hnok hK hV
                    go_wp2_with fail
                    refine Calls.mono HQ.out.1 ?_
                    rintro e w11 ⟨rfl, q11, rfl⟩
                    have H11 : Hid _ := S1.drewN H10.out q11
                    generalize World.drewN _ q11 = W11 at *
                    obtain ⟨g0, g1, g2, f0, f1, f2⟩ := H11.out.s.x.cells
                    obtain ⟨BK, hBK⟩ : ∃ BK, decide (K < 1 ∨ 9 < K) = BK := ⟨_, rfl⟩
                    have HBK : Hid _ := hBK
                    clear hBK
                    go_upto_region 19 with fail
                    go_cut [109] from 104 to 108 (fun v wx => v = .bool BK ∧ wx = W11)
                    case first =>
                      by_cases c1 : K < 1
                      · have d1 : decide ((K : Int) < 1) = true := by simp; omega
                        go_wp2_with fail
                        go_meet
                        case rel => exact ⟨by rw [← HBK.out, decide_eq_true (Or.inl c1)], rfl⟩
                      · have d1 : decide ((K : Int) < 1) = false := by simp; omega
                        by_cases c2 : 9 < K
                        · have d2 : decide (9 < (K : Int)) = true := by simp; omega
                          go_wp2_with fail
                          go_meet
                          case rel => exact ⟨by rw [← HBK.out, decide_eq_true (Or.inr c2)], rfl⟩
                        · have d2 : decide (9 < (K : Int)) = false := by simp; omega
                          go_wp2_with fail
                          go_meet
                          case rel => exact ⟨by rw [← HBK.out, decide_eq_false (by omega)], rfl⟩
                    case rest =>
                      obtain ⟨rfl, hw⟩ := hcut
                      have hw' := hw.symm
                      clear hw
                      subst hw'
                      obtain ⟨b7, hb7⟩ : ∃ b7, (BK || b6) = b7 := ⟨_, rfl⟩
                      have HB7 : Hid _ := hb7
                      clear hb7
                      go_upto_if 109 with fail
                      go_cut [] from 110 to 112 (fun wx => S1 w wx s p6 b7 Z ⟨M, D, 0⟩)
                      case first =>
                        cases BK
                        · go_wp2_with fail
                          go_meet
                          case rel =>
                            have : b6 = b7 := by have := HB7.out; simpa using this
                            rw [← this]
                            exact H11.out
                        · go_wp2_with fail
                          go_meet
                          case rel =>
                            have : true = b7 := by have := HB7.out; simpa using this
                            rw [← this]
                            exact S1.bad H11.out
                      case rest =>
                        have H12 : Hid _ := hcut
                        clear hcut g0 g1 g2 f0 f1 f2 H10
                        go_upto_region 21 with fail
                        go_cut [19] from 113 to 115 (fun v wx => Cn w s Z M D p6 K b7 V v wx)
                        case first =>
                          cases b7
                          · have hk9 : ¬ (K < 1 ∨ 9 < K) := by
                              have h7 := HB7.out
                              have h8 := HBK.out
                              cases BK
                              · simpa using h8
                              · simp at h7
                            go_wp2_with fail
                            refine Calls.mono (HQ.out.2.1 _ H12.out.s.x (by omega)) ?_
                            rintro e w12 (⟨hd, rfl, r12⟩ | ⟨hd, rfl, r12⟩)
                            · exact absurd hd (by omega)
                            have H13 : Hid _ := H12.out.rp r12
                            clear r12
                            obtain ⟨hV0, hV1⟩ := hvb (by omega)
                            go_wp2_with fail
                            go_meet
                            case rel => exact ⟨p6 + K, V, rfl, H13.out, hV0, hV1, fun _ => ⟨rfl, rfl, hk9⟩⟩
                          · go_wp2_with fail
                            refine Calls.mono (number_bad (w.heap.size + 1) s p6 (K : Int) _ H12.out.s.x H12.out.s.le) ?_
                            rintro e w12 ⟨rfl, r12⟩
                            have H13 : Hid _ := H12.out.rp r12
                            clear r12
                            go_wp2_with fail
                            go_meet
                            case rel => exact ⟨p6, 0, rfl, H13.out, by omega, by omega, fun q => by simp at q⟩
                        case rest =>
                          obtain ⟨P12, sec, rfl, hS12, sec0, sec1, hk12⟩ := hcut
                          have H12 : Hid _ := hS12
                          have HK12 : Hid _ := hk12
                          clear hS12 hk12
                          go_wp2_with fail
                          refine Calls.mono (fraction_r (w.heap.size + 1) s P12 b7 _ H12.out.s.x hs H12.out.s.le) ?_
                          rintro e w13 ⟨p13, b13, f, rfl, r13, f0, f1, k13⟩
                          have HF' : Hid _ := H12.out.rp r13
                          have HF : Hid _ := And.intro trivial (And.intro r13 k13)
                          obtain ⟨zf0, zf1, zf2⟩ := blk3f HF'.out.y
                          obtain ⟨z0', z1', z2'⟩ := blk3 HF'.out.y
                          clear r13 k13
                          go_upto_region 23 with fail
                          obtain ⟨W14, hW14, H14'⟩ := S1.ex (S1.setZ HF'.out 2 (.int .i64 f) (a' := ⟨M, D, f⟩) rfl)
                          rw [hW14]
                          have H14 : Hid _ := H14'
                          clear hW14 H14' HF' zf0 zf1 zf2 z0' z1' z2'
                          go_wp2_with fail
                          refine Calls.mono (take_r (w.heap.size + 1) s p13 b13 83 _ H14.out.s.x hs H14.out.s.le) ?_
                          rintro e w14 ⟨p14, b14, rfl, r14, k14⟩
                          have HZ : Hid _ := And.intro (H14.out.rp r14) (And.intro r14 k14)
                          clear r14 k14
                          go_wp2_with fail
                          go_meet
                          case rel =>
                            have hst : b6 = true → b14 = true := fun q => HZ.out.2.1.st (HF.out.2.1.st (by rw [← HB7.out, q]; simp))
                            have hx : b6 = false → TmV (scB ((bl s).drop p6)) s p14 b14 true (sec, f) := fun h6 => by
                              by_cases h7 : b7 = true
                              · have hb14 : b14 = true := HZ.out.2.1.st (HF.out.2.1.st h7)
                                rw [hb14]
                                refine sc_no HQ.out.2.2.1 ?_
                                have h8 := HB7.out
                                have h9 := HBK.out
                                rw [h6, h7] at h8
                                have hBt : BK = true := by simpa using h8
                                rw [hBt] at h9
                                simpa using h9
                              · have h7' : b7 = false := by simpa using h7
                                obtain ⟨hp, hv, hk9⟩ := HK12.out h7'
                                have hkf := HF.out.2.2 h7'
                                rw [hp] at hkf
                                rw [hv]
                                exact sc_ok HZ.out.2.1.le HQ.out.2.2.1 hk9 HQ.out.2.2.2 hkf HZ.out.2.2 HZ.out.2.1.st
                            exact ⟨p14, b14, sec, f, rfl, HZ.out.1, sec0, sec1, by omega, by omega, hst, fun _ h6 => hx h6, fun q => absurd hlt q⟩
                case rest =>
                  obtain ⟨p9, b9, sec, na, rfl, hS15, sec0, sec1, na0, na1, t9, kg, kn⟩ := hcut
                  have hch := tm_ch H9.out.1.s.le (H8.out.2.2 (by simp)) H9.out.2.2 H9.out.2.1 t9 kg kn
                  rw [HG.out] at hch
                  have hfin := fun b' hb' => HS.out.2.2.2.2 p9 b' true (3600 * hh + 60 * mm + sec, na) (fun q => by simp at q) (fun _ => by rw [HTT.out]; exact hb')
                  have H15 : Hid _ := And.intro hS15 (And.intro hch hfin)
                  clear hch hfin hS15 kg kn t9 H7 H8 H9 H10 HTT
                  obtain ⟨NB, hNB⟩ : ∃ NB, (!ee && !ff && !G) = NB := ⟨_, rfl⟩
                  have HNB : Hid _ := hNB
                  clear hNB
                  go_upto_region 24 with fail
                  go_cut [130] from 121 to 129 (fun v wx => v = .bool NB ∧ S1 w wx s p9 b9 Z ⟨M, D, na⟩)
                  case first =>
                    cases ee <;> cases ff <;> cases G
                    all_goals
                      go_wp2_with fail
                      go_meet
                      case rel => exact ⟨by rw [← HNB.out]; rfl, H15.out.1⟩
                  case rest =>
                    obtain ⟨rfl, hS16⟩ := hcut
                    have H16 : Hid _ := hS16
                    clear hS16
                    obtain ⟨b10, hb10⟩ : ∃ b10, (if NB = true then true else b9) = b10 := ⟨_, rfl⟩
                    have HB10 : Hid _ := hb10
                    clear hb10
                    go_upto_if 130 with fail
                    go_cut [] from 131 to 133 (fun wx => S1 w wx s p9 b10 Z ⟨M, D, na⟩)
                    case first =>
                      obtain ⟨g0, g1, g2, f0, f1, f2⟩ := H16.out.s.x.cells
                      cases NB
                      · go_wp2_with fail
                        go_meet
                        case rel =>
                          have : b9 = b10 := by have := HB10.out; simpa using this
                          rw [← this]
                          exact H16.out
                      · go_wp2_with fail
                        go_meet
                        case rel =>
                          have : true = b10 := by have := HB10.out; simpa using this
                          rw [← this]
                          exact S1.bad H16.out
                    case rest =>
                      have H17 : Hid _ := hcut
                      obtain ⟨z0', z1', z2'⟩ := blk3 hcut.y
                      obtain ⟨zf0, zf1, zf2⟩ := blk3f hcut.y
                      clear hcut H16
                      go_wp2_with fail
                      go_meet
                      case rel =>
                        have hq := H15.out.2.1
                        rw [HNB.out, HB10.out] at hq
                        have := H15.out.2.2 b10 hq
                        rw [show D + (3600 * hh + 60 * mm + sec, na).1 = D + 3600 * hh + 60 * mm + sec by simp only []; omega] at this
                        exact ⟨p9, b10, true, D + 3600 * hh + 60 * mm + sec, na, rfl, S1.setZ H17.out 1 _ rfl, by omega, by omega, na0, na1, this⟩
        case rest =>
          obtain ⟨pq, bq, an, sc, na, rfl, hS7, sc0, sc1, na0, na1, hF⟩ := hcut
          obtain ⟨g0, g1, g2, f0, f1, f2⟩ := hS7.s.x.cells
          obtain ⟨z0', z1', z2'⟩ := blk3 hS7.y
          obtain ⟨zf0, zf1, zf2⟩ := blk3f hS7.y
          obtain ⟨e0, e1, e2⟩ := blk3 hS7.s.r
          obtain ⟨i0, i1, i2⟩ := blk3f hS7.s.r
          have hZX := hS7.hZ
          have HF : Hid _ := And.intro hS7 hF
          clear hS7 hF HS H6
          cases bq
          · cases an
            · go_wp2_with fail
              go_quiet (fail)
              go_wp2_with fail
              obtain ⟨U, hU, hx, hb⟩ := put3 (X := w.heap.size) (S1.drewN HF.out.1 nq).s.hb (Nat.le_refl _) (S1.drewN HF.out.1 nq).s.r (.int .i64 0) (.int .i64 0) (.int .i64 0)
              rw [hU]
              obtain ⟨k0, k1, k2⟩ := blk3 hx
              exact bodyPost_ret (v := .tuple #[spV sp0, .int .i64 2]) (by simp [results, Try.results13, go_sem, k0, k1, k2]) rfl (PsQ.no (HF.out.2.no (.inr (.inl rfl))) hb)
            · by_cases hlt : pq < s.size
              · have d1 : decide ((pq : Int) < (s.size : Int)) = true := by simp; omega
                go_wp2_with fail
                go_quiet (fail)
                go_wp2_with fail
                obtain ⟨U, hU, hx, hb⟩ := put3 (X := w.heap.size) (S1.drewN HF.out.1 nq).s.hb (Nat.le_refl _) (S1.drewN HF.out.1 nq).s.r (.int .i64 0) (.int .i64 0) (.int .i64 0)
                rw [hU]
                obtain ⟨k0, k1, k2⟩ := blk3 hx
                exact bodyPost_ret (v := .tuple #[spV sp0, .int .i64 2]) (by simp [results, Try.results13, go_sem, k0, k1, k2]) rfl (PsQ.no (HF.out.2.no (.inr (.inr hlt))) hb)
              · have d1 : decide ((pq : Int) < (s.size : Int)) = false := by simp; omega
                go_wp2_with fail
                go_quiet (fail)
                cases neg
                · go_wp2_with fail
                  obtain ⟨U, hU, hx, hb⟩ := put3 (X := w.heap.size) (S1.drewN HF.out.1 nq).s.hb (Nat.le_refl _) (S1.drewN HF.out.1 nq).s.r (.int .i64 M) (.int .i64 sc) (.int .i64 na)
                  rw [hU]
                  obtain ⟨k0, k1, k2⟩ := blk3 hx
                  exact bodyPost_ret (v := .tuple #[spV ⟨M, sc, na⟩, .int .i64 0]) (by simp [results, Try.results13, go_sem, k0, k1, k2]) rfl (PsQ.yes (HF.out.2.ok hlt) hb)
                · go_upto_region 32 with fail
                  obtain ⟨U1, hU1, hx1, hb1⟩ := put3 (N := w.heap.size) (X := Z) (S1.drewN HF.out.1 nq).s.hb (by omega) (S1.drewN HF.out.1 nq).y (.int .i64 (-M)) (.int .i64 (-sc)) (.int .i64 (-na))
                  have xr : U1.heap[w.heap.size]? = some (.cells (spK ⟨0, 0, 0⟩) 35 (0, 0)) := by
                    rw [← hU1, Below.heap_setCell _ _ _ _ (by simp; omega), Below.heap_setCell _ _ _ _ (by simp; omega), Below.heap_setCell _ _ _ _ (by simp; omega)]
                    exact (S1.drewN HF.out.1 nq).s.r
                  rw [hU1]
                  clear hU1 g0 g1 g2 f0 f1 f2 z0' z1' z2' zf0 zf1 zf2 e0 e1 e2 i0 i1 i2
                  obtain ⟨z0', z1', z2'⟩ := blk3 hx1
                  obtain ⟨e0, e1, e2⟩ := blk3 xr
                  obtain ⟨i0, i1, i2⟩ := blk3f xr
                  have HU : Hid _ := And.intro hb1 xr
                  clear hb1 xr hx1
                  go_wp2_with fail
                  obtain ⟨U, hU, hx, hb⟩ := put3 (X := w.heap.size) HU.out.1 (Nat.le_refl _) HU.out.2 (.int .i64 (-M)) (.int .i64 (-sc)) (.int .i64 (-na))
                  rw [hU]
                  obtain ⟨k0, k1, k2⟩ := blk3 hx
                  exact bodyPost_ret (v := .tuple #[spV ⟨-M, -sc, -na⟩, .int .i64 0]) (by simp [results, Try.results13, go_sem, k0, k1, k2]) rfl (PsQ.yes (HF.out.2.ok hlt) hb)
          · go_wp2_with fail
            go_quiet (fail)
            go_wp2_with fail
            obtain ⟨U, hU, hx, hb⟩ := put3 (X := w.heap.size) (S1.drewN HF.out.1 nq).s.hb (Nat.le_refl _) (S1.drewN HF.out.1 nq).s.r (.int .i64 0) (.int .i64 0) (.int .i64 0)
            rw [hU]
            obtain ⟨k0, k1, k2⟩ := blk3 hx
            exact bodyPost_ret (v := .tuple #[spV sp0, .int .i64 2]) (by simp [results, Try.results13, go_sem, k0, k1, k2]) rfl (PsQ.no (HF.out.2.no (.inl rfl)) hb)
end Go.Proofs.Ytijcbgjlofcdfaa
