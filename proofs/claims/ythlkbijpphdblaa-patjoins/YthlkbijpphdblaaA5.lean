/- The reader: how often. -/
import Derived.Test.YthlkbijpphdblaaA4
namespace Go.Proofs.Ythlkbijpphdblaa
open Go.RowKit
set_option linter.unusedVariables false

theorem be_bad {l : Bs} {op a b : Int} {k : Nat} {p er : Int} (h : pkS l k = .bad p er) : bndE l op a b k = .bad p er := by unfold bndE; rw [h]; rfl
theorem be_no {l : Bs} {op a b r : Int} {k k' : Nat} (h : pkS l k = .ok r k') (hn : ¬ (r = 125 ∧ ¬ (b ≠ -1 ∧ b < a))) : bndE l op a b k = .bad op 2 := by
  unfold bndE
  rw [h, R.bind_ok, if_neg hn]
theorem be_ok {l : Bs} {op a b r : Int} {k k' : Nat} (h : pkS l k = .ok r k') (hn : r = 125 ∧ ¬ (b ≠ -1 ∧ b < a)) : bndE l op a b k = .ok (a, b) (k + 1) := by
  unfold bndE
  rw [h, R.bind_ok, if_pos hn]
abbrev prV : Int × Int → Value := fun p => .tuple #[.int .i64 p.1, .int .i64 p.2]
set_option maxHeartbeats 4000000 in
theorem bounds_p {P k o : Nat} {w : World} {vb : Value} {l : Bs} (op : Int) (h : In P w vb l k o) : Calls Try.prog 78 #[pp P, .int .i64 op] w fun e w' => Mv P w vb l o prV (bndS l op k) e w' := by
  have q := number_p op h
  have HH : Hid _ := And.intro (fun W => fail_p P op W) trivial
  obtain ⟨X, hX⟩ : ∃ X, bndS l op k = X := ⟨_, rfl⟩
  rw [hX]
  unfold bndS at hX
  cases hr : numS l op 6 0 0 k with
  | bad p er =>
    rw [hr] at q hX
    have HQ : Hid _ := And.intro q hX
    clear q hr h hX
    go_enter Try.func78, Try.ntmps78
    go_wp2_with fail
    refine Calls.mono HQ.out.1 ?_
    rintro e w1 ⟨rfl, hf1⟩
    exact ⟨rfl, mv_bad HQ.out.2 hf1⟩
  | ok a k1 =>
    rw [hr] at q hX
    rw [R.bind_ok] at hX
    have HQ : Hid _ := And.intro q hX
    clear q hr h hX
    go_enter Try.func78, Try.ntmps78
    go_wp2_with fail
    refine Calls.mono HQ.out.1 ?_
    rintro e w1 ⟨rfl, hi1, hf1⟩
    have qs := skip_p 44 hi1 (by omega)
    cases hs : skB l 44 k1 with
    | false =>
      rw [hs] at qs
      have hX := HQ.out.2
      rw [hs, if_neg (by decide)] at hX
      have H1 : Hid _ := And.intro qs (And.intro hf1 hX)
      clear qs hf1 hX hs HQ hi1
      go_wp2_with fail
      refine Calls.mono H1.out.1 ?_
      rintro e w2 ⟨rfl, hi2, hf2⟩
      rw [if_neg (by decide)] at hi2
      have H2 : Hid _ := And.intro hi2 (And.intro (H1.out.2.1.trans hf2) H1.out.2.2)
      clear hi2 hf2 H1
      have hX := H2.out.2.2
      have q := peek_p H2.out.1
      have hll := H2.out.1.ll
      cases hr : pkS l (k1) with
      | bad p er =>
        rw [be_bad hr] at hX
        rw [hr] at q
        have HQ : Hid _ := And.intro q hX
        clear q hr hX
        go_wp2_with fail
        refine Calls.mono HQ.out.1 ?_
        rintro e w9 ⟨rfl, m9, hw9⟩; have hi9 := H2.out.1.dr hw9; have hf9 := H2.out.2.1.trans (fro_of hw9); clear hw9; have H99 : Hid _ := And.intro hi9 hf9; clear hi9 hf9
        exact ⟨rfl, mv_bad HQ.out.2 H99.out.2⟩
      | ok r9 k9 =>
        have hlt := pk_lt hr
        by_cases h9 : r9 = 125
        · subst h9
          by_cases ha : a = -1
          · subst ha
            rw [be_ok hr ⟨rfl, fun q => q.1 rfl⟩] at hX
            rw [hr] at q
            have HQ : Hid _ := And.intro q hX
            clear q hr hX
            go_wp2_with fail
            refine Calls.mono HQ.out.1 ?_
            rintro e w9 ⟨rfl, m9, hw9⟩; have hi9 := H2.out.1.dr hw9; have hf9 := H2.out.2.1.trans (fro_of hw9); clear hw9; have H99 : Hid _ := And.intro hi9 hf9; clear hi9 hf9
            have hi9 := H99.out.1
            obtain ⟨⟨c0, c1, c2⟩, f0, f1, f2⟩ := cells3 hi9.ps
            have hs9 := set_at hi9 (k1 + 1) (((k1 : Nat) : Int) + 1) (by omega) (by omega)
            have H9 : Hid _ := hs9
            clear hi9 hs9
            go_wp2_with fail
            go_ret2
            exact mv_ok HQ.out.2 rfl H9.out.1 (H99.out.2.trans H9.out.2)
          · have na : (a != -1) = true := by simpa using ha
            have nl : ¬ a < a := by omega
            rw [be_ok hr ⟨rfl, fun q => nl q.2⟩] at hX
            rw [hr] at q
            have HQ : Hid _ := And.intro q hX
            clear q hr hX
            go_wp2_with fail
            refine Calls.mono HQ.out.1 ?_
            rintro e w9 ⟨rfl, m9, hw9⟩; have hi9 := H2.out.1.dr hw9; have hf9 := H2.out.2.1.trans (fro_of hw9); clear hw9; have H99 : Hid _ := And.intro hi9 hf9; clear hi9 hf9
            have hi9 := H99.out.1
            obtain ⟨⟨c0, c1, c2⟩, f0, f1, f2⟩ := cells3 hi9.ps
            have hs9 := set_at hi9 (k1 + 1) (((k1 : Nat) : Int) + 1) (by omega) (by omega)
            have H9 : Hid _ := hs9
            clear hi9 hs9
            go_wp2_with fail
            go_ret2
            exact mv_ok HQ.out.2 rfl H9.out.1 (H99.out.2.trans H9.out.2)
        · rw [be_no hr (fun q => h9 q.1)] at hX
          rw [hr] at q
          have n9 : (r9 != 125) = true := by simpa using h9
          have HQ : Hid _ := And.intro q hX
          clear q hr hX h9
          go_wp2_with fail
          refine Calls.mono HQ.out.1 ?_
          rintro e w9 ⟨rfl, m9, hw9⟩; have hi9 := H2.out.1.dr hw9; have hf9 := H2.out.2.1.trans (fro_of hw9); clear hw9; have H99 : Hid _ := And.intro hi9 hf9; clear hi9 hf9
          go_wp2_with fail
          refine Calls.mono (HH.out.1 _) ?_
          rintro e w10 ⟨rfl, hw⟩
          subst hw
          exact ⟨rfl, mv_bad HQ.out.2 H99.out.2⟩
    | true =>
      rw [hs] at qs
      have hX := HQ.out.2
      rw [hs, if_pos rfl] at hX
      have H1 : Hid _ := And.intro qs (And.intro hf1 hX)
      clear qs hf1 hX hs HQ hi1
      go_wp2_with fail
      refine Calls.mono H1.out.1 ?_
      rintro e w2 ⟨rfl, hi2, hf2⟩
      rw [if_pos rfl] at hi2
      have hf := H1.out.2.1.trans hf2
      have hX := H1.out.2.2
      clear hf2 H1
      have q := peek_p hi2
      cases hr : pkS l (k1 + 1) with
      | bad p er =>
        rw [hr] at q hX
        have HQ : Hid _ := And.intro q (And.intro hX hf)
        clear q hr hX hf hi2
        go_wp2_with fail
        refine Calls.mono HQ.out.1 ?_
        rintro e w3 ⟨rfl, m, rfl⟩
        exact ⟨rfl, mv_bad HQ.out.2.1 (HQ.out.2.2.trans (fro_dr m))⟩
      | ok r k' =>
        rw [hr] at q hX
        rw [R.bind_ok] at hX
        by_cases h125 : r = 125
        · subst h125
          rw [if_pos rfl] at hX
          have HQ : Hid _ := And.intro q (And.intro hX (And.intro hf hi2))
          clear q hr hX hf hi2
          go_wp2_with fail
          refine Calls.mono HQ.out.1 ?_
          rintro e w3 ⟨rfl, m, hw3⟩
          have H2 : Hid _ := And.intro (HQ.out.2.2.2.dr hw3) (And.intro (HQ.out.2.2.1.trans (fro_of hw3)) HQ.out.2.1)
          clear HQ hw3
          have hX := H2.out.2.2
          have q := peek_p H2.out.1
          have hll := H2.out.1.ll
          cases hr : pkS l ((k1+1)) with
          | bad p er =>
            rw [be_bad hr] at hX
            rw [hr] at q
            have HQ : Hid _ := And.intro q hX
            clear q hr hX
            go_wp2_with fail
            refine Calls.mono HQ.out.1 ?_
            rintro e w9 ⟨rfl, m9, hw9⟩; have hi9 := H2.out.1.dr hw9; have hf9 := H2.out.2.1.trans (fro_of hw9); clear hw9; have H99 : Hid _ := And.intro hi9 hf9; clear hi9 hf9
            exact ⟨rfl, mv_bad HQ.out.2 H99.out.2⟩
          | ok r9 k9 =>
            have hlt := pk_lt hr
            by_cases h9 : r9 = 125
            · subst h9
              rw [be_ok hr ⟨rfl, fun q => q.1 rfl⟩] at hX
              rw [hr] at q
              have HQ : Hid _ := And.intro q hX
              clear q hr hX
              go_wp2_with fail
              refine Calls.mono HQ.out.1 ?_
              rintro e w9 ⟨rfl, m9, hw9⟩; have hi9 := H2.out.1.dr hw9; have hf9 := H2.out.2.1.trans (fro_of hw9); clear hw9; have H99 : Hid _ := And.intro hi9 hf9; clear hi9 hf9
              have hi9 := H99.out.1
              obtain ⟨⟨c0, c1, c2⟩, f0, f1, f2⟩ := cells3 hi9.ps
              have hs9 := set_at hi9 ((k1+1) + 1) ((((k1+1) : Nat) : Int) + 1) (by omega) (by omega)
              have H9 : Hid _ := hs9
              clear hi9 hs9
              go_wp2_with fail
              go_ret2
              exact mv_ok HQ.out.2 rfl H9.out.1 (H99.out.2.trans H9.out.2)
            · rw [be_no hr (fun q => h9 q.1)] at hX
              rw [hr] at q
              have n9 : (r9 != 125) = true := by simpa using h9
              have HQ : Hid _ := And.intro q hX
              clear q hr hX h9
              go_wp2_with fail
              refine Calls.mono HQ.out.1 ?_
              rintro e w9 ⟨rfl, m9, hw9⟩; have hi9 := H2.out.1.dr hw9; have hf9 := H2.out.2.1.trans (fro_of hw9); clear hw9; have H99 : Hid _ := And.intro hi9 hf9; clear hi9 hf9
              go_wp2_with fail
              refine Calls.mono (HH.out.1 _) ?_
              rintro e w10 ⟨rfl, hw⟩
              subst hw
              exact ⟨rfl, mv_bad HQ.out.2 H99.out.2⟩
        · rw [if_neg h125] at hX
          have n125 : (r != 125) = true := by simpa using h125
          have HQ : Hid _ := And.intro q (And.intro hX (And.intro hf hi2))
          clear q hr hX hf hi2 h125
          go_wp2_with fail
          refine Calls.mono HQ.out.1 ?_
          rintro e w3 ⟨rfl, m, hw3⟩
          have qn := number_p op (HQ.out.2.2.2.dr hw3)
          have hX := HQ.out.2.1
          have hf := HQ.out.2.2.1.trans (fro_of hw3)
          clear HQ hw3
          cases hr : numS l op 6 0 0 (k1 + 1) with
          | bad p er =>
            rw [hr] at qn hX
            have HQ : Hid _ := And.intro qn (And.intro hX hf)
            clear qn hr hX hf
            go_wp2_with fail
            refine Calls.mono HQ.out.1 ?_
            rintro e w4 ⟨rfl, hf4⟩
            exact ⟨rfl, mv_bad HQ.out.2.1 (HQ.out.2.2.trans hf4)⟩
          | ok b k2 =>
            rw [hr] at qn hX
            rw [R.bind_ok] at hX
            have HQ : Hid _ := And.intro qn (And.intro hX hf)
            clear qn hr hX hf
            go_wp2_with fail
            refine Calls.mono HQ.out.1 ?_
            rintro e w4 ⟨rfl, hi4, hf4⟩
            have H2 : Hid _ := And.intro hi4 (And.intro (HQ.out.2.2.trans hf4) HQ.out.2.1)
            clear HQ hi4 hf4
            have hX := H2.out.2.2
            have q := peek_p H2.out.1
            have hll := H2.out.1.ll
            cases hr : pkS l (k2) with
            | bad p er =>
              rw [be_bad hr] at hX
              rw [hr] at q
              have HQ : Hid _ := And.intro q hX
              clear q hr hX
              go_wp2_with fail
              refine Calls.mono HQ.out.1 ?_
              rintro e w9 ⟨rfl, m9, hw9⟩; have hi9 := H2.out.1.dr hw9; have hf9 := H2.out.2.1.trans (fro_of hw9); clear hw9; have H99 : Hid _ := And.intro hi9 hf9; clear hi9 hf9
              exact ⟨rfl, mv_bad HQ.out.2 H99.out.2⟩
            | ok r9 k9 =>
              have hlt := pk_lt hr
              by_cases h9 : r9 = 125
              · subst h9
                by_cases hb : b = -1
                · subst hb
                  rw [be_ok hr ⟨rfl, fun q => q.1 rfl⟩] at hX
                  rw [hr] at q
                  have HQ : Hid _ := And.intro q hX
                  clear q hr hX
                  go_wp2_with fail
                  refine Calls.mono HQ.out.1 ?_
                  rintro e w9 ⟨rfl, m9, hw9⟩; have hi9 := H2.out.1.dr hw9; have hf9 := H2.out.2.1.trans (fro_of hw9); clear hw9; have H99 : Hid _ := And.intro hi9 hf9; clear hi9 hf9
                  have hi9 := H99.out.1
                  obtain ⟨⟨c0, c1, c2⟩, f0, f1, f2⟩ := cells3 hi9.ps
                  have hs9 := set_at hi9 (k2 + 1) (((k2 : Nat) : Int) + 1) (by omega) (by omega)
                  have H9 : Hid _ := hs9
                  clear hi9 hs9
                  go_wp2_with fail
                  go_ret2
                  exact mv_ok HQ.out.2 rfl H9.out.1 (H99.out.2.trans H9.out.2)
                · have nb : (b != -1) = true := by simpa using hb
                  by_cases hl : b < a
                  · rw [be_no hr (fun q => q.2 ⟨hb, hl⟩)] at hX
                    rw [hr] at q
                    have HQ : Hid _ := And.intro q hX
                    clear q hr hX hb
                    go_wp2_with fail
                    refine Calls.mono HQ.out.1 ?_
                    rintro e w9 ⟨rfl, m9, hw9⟩; have hi9 := H2.out.1.dr hw9; have hf9 := H2.out.2.1.trans (fro_of hw9); clear hw9; have H99 : Hid _ := And.intro hi9 hf9; clear hi9 hf9
                    go_wp2_with fail
                    refine Calls.mono (HH.out.1 _) ?_
                    rintro e w10 ⟨rfl, hw⟩
                    subst hw
                    exact ⟨rfl, mv_bad HQ.out.2 H99.out.2⟩
                  · skip
                    rw [be_ok hr ⟨rfl, fun q => hl q.2⟩] at hX
                    rw [hr] at q
                    have HQ : Hid _ := And.intro q hX
                    clear q hr hX
                    go_wp2_with fail
                    refine Calls.mono HQ.out.1 ?_
                    rintro e w9 ⟨rfl, m9, hw9⟩; have hi9 := H2.out.1.dr hw9; have hf9 := H2.out.2.1.trans (fro_of hw9); clear hw9; have H99 : Hid _ := And.intro hi9 hf9; clear hi9 hf9
                    have hi9 := H99.out.1
                    obtain ⟨⟨c0, c1, c2⟩, f0, f1, f2⟩ := cells3 hi9.ps
                    have hs9 := set_at hi9 (k2 + 1) (((k2 : Nat) : Int) + 1) (by omega) (by omega)
                    have H9 : Hid _ := hs9
                    clear hi9 hs9
                    go_wp2_with fail
                    go_ret2
                    exact mv_ok HQ.out.2 rfl H9.out.1 (H99.out.2.trans H9.out.2)
              · rw [be_no hr (fun q => h9 q.1)] at hX
                rw [hr] at q
                have n9 : (r9 != 125) = true := by simpa using h9
                have HQ : Hid _ := And.intro q hX
                clear q hr hX h9
                go_wp2_with fail
                refine Calls.mono HQ.out.1 ?_
                rintro e w9 ⟨rfl, m9, hw9⟩; have hi9 := H2.out.1.dr hw9; have hf9 := H2.out.2.1.trans (fro_of hw9); clear hw9; have H99 : Hid _ := And.intro hi9 hf9; clear hi9 hf9
                go_wp2_with fail
                refine Calls.mono (HH.out.1 _) ?_
                rintro e w10 ⟨rfl, hw⟩
                subst hw
                exact ⟨rfl, mv_bad HQ.out.2 H99.out.2⟩
end Go.Proofs.Ythlkbijpphdblaa
