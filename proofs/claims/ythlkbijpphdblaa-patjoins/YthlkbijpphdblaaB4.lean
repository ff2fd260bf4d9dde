/- The reader: a class. -/
import Derived.Test.YthlkbijpphdblaaB3
namespace Go.Proofs.Ythlkbijpphdblaa
open Go.RowKit
set_option linter.unusedVariables false

theorem ml_t {l : Bs} {f : Nat} {acc : List Rg} {k : Nat} : mlS l (f + 1) true acc k = (mbS l true k).bind fun s k' => mlS l f false (acc ++ s) k' := rfl
theorem ml_f {l : Bs} {f : Nat} {acc : List Rg} {k : Nat} : mlS l (f + 1) false acc k = (ceS l k).bind fun b _ => if b = true then .ok acc k else (mbS l false k).bind fun s k' => mlS l f false (acc ++ s) k' := rfl
def ClsR (P : Nat) (w : World) (vb : Value) (l : Bs) (o k2 : Nat) (X1 : R (List Rg)) (g : Nat) (v4 v5 : Value) (wr : World) : Prop := ∃ (first : Bool) (acc : List Rg) (j : Nat), v5 = .bool first ∧ l.length + 1 ≤ j + g ∧ mlS l g first acc j = X1 ∧ acc.length ≤ 6 * (j - k2) ∧ k2 ≤ j ∧ Own .i32 64 wr w.heap.size v4 acc ∧ In P wr vb l j (o + 1) ∧ Fro (fun j => j = P) w wr
set_option maxRecDepth 8000 in
set_option maxHeartbeats 8000000 in
theorem class_p {P : Nat} {vb : Value} {l : Bs} : ∀ (f k o : Nat) (w : World), In P w vb l k o → k < l.length → 41 ≤ f + o → Calls Try.prog 74 #[pp P] w fun e w' => MvS P w vb l o (clsS l f o k) e w'
  | 0, k, o, w, h, hk, hf => by have := h.oo; omega
  | f + 1, k, o, w, h, hk, hfo => by
    have IH : Hid (∀ (k o : Nat) (w : World), In P w vb l k o → k < l.length → 41 ≤ f + o → Calls Try.prog 74 #[pp P] w fun e w' => MvS P w vb l o (clsS l f o k) e w') := fun k o w => class_p f k o w
    obtain ⟨i50, z50, hi50, hz0, hzc, hz1, hz3⟩ := info_rgp
    obtain ⟨X, hX⟩ : ∃ X, clsS l (f + 1) o k = X := ⟨_, rfl⟩
    rw [hX]
    unfold clsS at hX
    have hll := h.ll
    have hPw := lt_of h.ps
    have HBT : Hid _ := h.br.bt
    have q := enter_p h hk
    cases he : entS o k with
    | bad p er =>
      rw [he] at q hX
      have HQ : Hid _ := And.intro q hX
      clear q h hX he
      go_enter Try.func74, Try.ntmps74
      go_wp2_with fail
      refine Calls.mono HQ.out.1 ?_
      rintro e w1 ⟨rfl, hf1⟩
      exact ⟨rfl, ms_bad HQ.out.2 hf1⟩
    | ok u k1 =>
      rw [he] at q hX
      rw [R.bind_ok] at hX
      have HQ : Hid _ := And.intro q hX
      clear q h hX he
      go_enter Try.func74, Try.ntmps74
      go_wp2_with fail
      refine Calls.mono HQ.out.1 ?_
      rintro e w1 ⟨rfl, hi1, hf1⟩
      have qs := skip_p 94 hi1 (by omega)
      have hX := HQ.out.2
      clear HQ
      obtain ⟨b94, h94⟩ : ∃ b, skB l 94 k1 = b := ⟨_, rfl⟩
      rw [h94] at qs hX
      obtain ⟨k2, hk2⟩ : ∃ k2, (if b94 = true then k1 + 1 else k1) = k2 := ⟨_, rfl⟩
      rw [hk2] at hX
      obtain ⟨X1, hX1⟩ : ∃ X1, mlS l (l.length + 1) true [] k2 = X1 := ⟨_, rfl⟩
      rw [hX1] at hX
      have HX : Hid _ := hX
      have HQ : Hid _ := And.intro qs (And.intro hX1 (And.intro hf1 hk2))
      clear qs hX hX1 hf1 hi1 h94 hk2
      go_wp2_with fail
      refine Calls.mono HQ.out.1 ?_
      rintro e w2 ⟨rfl, hi2, hf2⟩
      rw [HQ.out.2.2.2] at hi2
      have H2 : Hid _ := And.intro hi2 (And.intro (HQ.out.2.2.1.trans hf2) HQ.out.2.1)
      clear hi2 hf2 HQ
      go_wp2_with fail
      go_loopg [4, 5] (l.length + 1) (fun g v4 v5 wr => ClsR P w vb l o k2 X1 g v4 v5 wr)
      case atStart => exact ⟨true, [], k2, rfl, by omega, H2.out.2.2, by simp, Nat.le_refl _, Own.nil _ _ _ _, H2.out.1, H2.out.2.1⟩
      case round =>
        obtain ⟨first, acc, j, rfl, hjg, hX1, hal, hk2j, hown, hi, hf⟩ := hrel
        have hjl := hi.kl
        obtain ⟨va, vc, rfl⟩ := own_form hown
        obtain ⟨g, rfl⟩ : ∃ g, gk = g + 1 := ⟨gk - 1, by omega⟩
        clear H2
        cases first with
        | true =>
          rw [ml_t] at hX1
          have qm := member_p true hi
          cases hm : mbS l true j with
          | bad p er =>
            rw [hm] at qm hX1
            have hX := HX.out
            rw [← hX1] at hX
            have H4 : Hid _ := And.intro qm (And.intro hX hf)
            clear qm hX hX1 hm hi hf hown
            go_wp2_with fail
            refine Calls.mono H4.out.1 ?_
            rintro e w4 ⟨rfl, hf4⟩
            exact ⟨rfl, ms_bad H4.out.2.1 (H4.out.2.2.trans hf4)⟩
          | ok s k4 =>
            have hso := mb_ok HBT.out hm
            have hsl := hso.len
            have hsk := hso.lt
            rw [hm] at qm hX1
            rw [R.bind_ok] at hX1
            have H4 : Hid _ := And.intro qm (And.intro hX1 (And.intro hf hown))
            clear qm hX1 hm hi hf hown hso
            go_wp2_with fail
            refine Calls.mono H4.out.1 ?_
            rintro e w4 ⟨a4, c4, rfl, o4, hi4, hf4⟩
            have hkl4 := hi4.kl
            have ho4 := own_fro H4.out.2.2.2 hf4 hPw
            have hff := H4.out.2.2.1.trans hf4
            have H5 : Hid _ := And.intro ho4 (And.intro o4.sl (And.intro hi4 hff))
            clear ho4 o4 hi4 hf4 hff
            go_wp2_with (first | (at_builtin; go_loud (refine wpList_cat2 w4 .i32 64 23 24 Try.underlying24 i50 z50 8 Try.underlying23 hi50 hz0 hzc hz1 hz3 (by decide) (.tmp 17) (.tmp 20) rfl rfl w.heap.size (.slice va acc.length vc) (.slice a4 s.length c4) acc s rfl H5.out.1 rfl H5.out.2.1 (by omega) H5.out.2.2.2.size ?_); intro v6 w6 o6 hb6; have H6 : Hid _ := And.intro o6 (And.intro (H5.out.2.2.1.belowb hb6 hPw) (fro_base H5.out.2.2.2 hb6)); clear o6 hb6))
            go_roundg g
            case measure => omega
            case rel => exact ⟨false, acc ++ s, k4, rfl, by omega, H4.out.2.1, by rw [List.length_append]; omega, by omega, H6.out.1, H6.out.2.1, H6.out.2.2⟩
        | false =>
          rw [ml_f] at hX1
          have qe := ends_p hi
          cases hce : ceS l j with
          | bad p er =>
            rw [hce] at qe hX1
            have hX := HX.out
            rw [← hX1] at hX
            have H4 : Hid _ := And.intro qe (And.intro hX hf)
            clear qe hX hX1 hce hi hf hown
            go_wp2_with fail
            refine Calls.mono H4.out.1 ?_
            rintro e w4 ⟨rfl, m4, hw⟩
            exact ⟨rfl, ms_bad H4.out.2.1 (H4.out.2.2.trans (fro_of hw))⟩
          | ok b j' =>
            have HCE0 : Hid _ := hce
            rw [hce] at qe hX1
            rw [R.bind_ok] at hX1
            cases b with
            | false =>
              rw [if_neg (by decide)] at hX1
              have H3 : Hid _ := And.intro qe (And.intro hX1 (And.intro hi (And.intro hf hown)))
              clear qe hX1 hce hi hf hown
              go_wp2_with fail
              refine Calls.mono H3.out.1 ?_
              rintro e w3 ⟨rfl, m3, hw⟩
              have hi := H3.out.2.2.1.dr hw
              have hf := H3.out.2.2.2.1.trans (fro_of hw)
              have hown := H3.out.2.2.2.2.below (bel_of hw)
              have hX1 := H3.out.2.1
              clear hw H3
              have qm := member_p false hi
              cases hm : mbS l false j with
              | bad p er =>
                rw [hm] at qm hX1
                have hX := HX.out
                rw [← hX1] at hX
                have H4 : Hid _ := And.intro qm (And.intro hX hf)
                clear qm hX hX1 hm hi hf hown
                go_wp2_with fail
                refine Calls.mono H4.out.1 ?_
                rintro e w4 ⟨rfl, hf4⟩
                exact ⟨rfl, ms_bad H4.out.2.1 (H4.out.2.2.trans hf4)⟩
              | ok s k4 =>
                have hso := mb_ok HBT.out hm
                have hsl := hso.len
                have hsk := hso.lt
                rw [hm] at qm hX1
                rw [R.bind_ok] at hX1
                have H4 : Hid _ := And.intro qm (And.intro hX1 (And.intro hf hown))
                clear qm hX1 hm hi hf hown hso
                go_wp2_with fail
                refine Calls.mono H4.out.1 ?_
                rintro e w4 ⟨a4, c4, rfl, o4, hi4, hf4⟩
                have hkl4 := hi4.kl
                have ho4 := own_fro H4.out.2.2.2 hf4 hPw
                have hff := H4.out.2.2.1.trans hf4
                have H5 : Hid _ := And.intro ho4 (And.intro o4.sl (And.intro hi4 hff))
                clear ho4 o4 hi4 hf4 hff
                go_wp2_with (first | (at_builtin; go_loud (refine wpList_cat2 w4 .i32 64 23 24 Try.underlying24 i50 z50 8 Try.underlying23 hi50 hz0 hzc hz1 hz3 (by decide) (.tmp 17) (.tmp 20) rfl rfl w.heap.size (.slice va acc.length vc) (.slice a4 s.length c4) acc s rfl H5.out.1 rfl H5.out.2.1 (by omega) H5.out.2.2.2.size ?_); intro v6 w6 o6 hb6; have H6 : Hid _ := And.intro o6 (And.intro (H5.out.2.2.1.belowb hb6 hPw) (fro_base H5.out.2.2.2 hb6)); clear o6 hb6))
                go_roundg g
                case measure => omega
                case rel => exact ⟨false, acc ++ s, k4, rfl, by omega, H4.out.2.1, by rw [List.length_append]; omega, by omega, H6.out.1, H6.out.2.1, H6.out.2.2⟩
            | true =>
              rw [if_pos rfl] at hX1
              have hX := HX.out
              rw [← hX1, R.bind_ok] at hX
              have HCE : Hid (ceS l j = .ok true j') := hce
              have hsc := cl_s b94 acc
              have H3 : Hid _ := And.intro qe (And.intro hX (And.intro hi (And.intro hf (And.intro hown hsc))))
              clear qe hX1 hce hi hf hown hX HCE0 hsc HX
              go_wp2_with fail
              refine Calls.mono H3.out.1 ?_
              rintro e w3 ⟨rfl, m3, hw⟩
              have hi := H3.out.2.2.1.dr hw
              have hf := H3.out.2.2.2.1.trans (fro_of hw)
              have hown := H3.out.2.2.2.2.1.below (bel_of hw)
              have hX := H3.out.2.1
              have hsc := H3.out.2.2.2.2.2
              have qo := of_p _ acc w3 hown.sl (by omega)
              have H4 : Hid _ := And.intro qo (And.intro hX (And.intro hi (And.intro hf hsc)))
              clear hw H3 hi hf hown hX qo hsc
              go_wp2_with fail
              refine Calls.mono H4.out.1 ?_
              rintro e w5 ⟨v5, s5, rfl, hof, o5, hl5, hb5⟩
              have hs5 := of_same hof
              subst hs5
              obtain ⟨a5, c5, rfl⟩ := own_form o5
              cases b94 with
              | false =>
                have H7 : Hid (Own .i32 64 w5 w.heap.size (.slice a5 (ofR acc).length c5) (ofR acc) ∧ In P w5 vb l j (o + 1) ∧ Fro (fun j => j = P) w w5 ∧ (if skB l 45 j = true then (clsS l f (o + 1) (j + 1)).bind fun t k4 => (sgnS l 93 k4).bind fun _ k5 => .ok (mnF (ofR acc) t) k5 else (sgnS l 93 j).bind fun _ k5 => .ok (ofR acc) k5) = X) := ⟨o5.mono H4.out.2.2.2.1.size, H4.out.2.2.1.below hb5, H4.out.2.2.2.1.trans (Fro.below hb5), H4.out.2.1⟩
                have HSC : Hid (Cn (ofR acc) ∧ (ofR acc).length ≤ acc.length + 1) := H4.out.2.2.2.2
                clear hof o5 hl5 hb5 H4
                have qd := skip_p 45 H7.out.2.1 (by omega)
                have hX := H7.out.2.2.2
                cases h45 : skB l 45 j with
                | false =>
                  rw [h45] at qd hX
                  rw [if_neg (by decide)] at hX
                  have H8 : Hid _ := And.intro qd hX
                  clear qd hX h45
                  go_wp2_with fail
                  refine Calls.mono H8.out.1 ?_
                  rintro e w8 ⟨rfl, hi8, hf8⟩
                  rw [if_neg (by decide)] at hi8
                  have ho8 := own_fro H7.out.1 hf8 hPw
                  have hff := H7.out.2.2.1.trans hf8
                  have hX := H8.out.2
                  have ql := leave_p (o := o) 93 hi8 (by omega)
                  cases hl : sgnS l 93 j with
                  | bad p er =>
                    rw [hl] at ql hX
                    have H9 : Hid _ := And.intro ql (And.intro hX hff)
                    clear ql hX hff hi8 ho8 hf8 hl
                    go_wp2_with fail
                    refine Calls.mono H9.out.1 ?_
                    rintro e w9 ⟨rfl, hf9⟩
                    exact ⟨rfl, ms_bad H9.out.2.1 (H9.out.2.2.trans hf9)⟩
                  | ok u k9 =>
                    rw [hl] at ql hX
                    rw [R.bind_ok] at hX
                    have H9 : Hid _ := And.intro ql (And.intro hX (And.intro hff ho8))
                    clear ql hX hff hi8 ho8 hf8 hl
                    go_wp2_with fail
                    refine Calls.mono H9.out.1 ?_
                    rintro e w9 ⟨rfl, hi9, hf9⟩
                    have H10 : Hid _ := And.intro (own_fro H9.out.2.2.2 hf9 hPw) (And.intro hi9 (H9.out.2.2.1.trans hf9))
                    clear hi9 hf9
                    go_wp2_with fail
                    go_ret
                    exact ms_ok H9.out.2.1 rfl H10.out.1 H10.out.2.1 H10.out.2.2
                | true =>
                  have hce := ce_dash HCE.out h45
                  rw [h45] at qd hX
                  rw [if_pos rfl] at hX
                  have H8 : Hid _ := And.intro qd hX
                  clear qd hX h45
                  go_wp2_with fail
                  refine Calls.mono H8.out.1 ?_
                  rintro e w8 ⟨rfl, hi8, hf8⟩
                  rw [if_pos rfl] at hi8
                  have ho8 := own_fro H7.out.1 hf8 hPw
                  have hff := H7.out.2.2.1.trans hf8
                  have hX := H8.out.2
                  have qc := IH.out (j + 1) (o + 1) w8 hi8 hce (by omega)
                  cases hc : clsS l f (o + 1) (j + 1) with
                  | bad p er =>
                    rw [hc] at qc hX
                    have H9 : Hid _ := And.intro qc (And.intro hX hff)
                    clear qc hX hff hi8 ho8 hf8 hc
                    go_wp2_with fail
                    refine Calls.mono H9.out.1 ?_
                    rintro e w9 ⟨rfl, hf9⟩
                    exact ⟨rfl, ms_bad H9.out.2.1 (H9.out.2.2.trans hf9)⟩
                  | ok t k9 =>
                    obtain ⟨tc, tl, tk⟩ := cls_ok HBT.out _ _ _ _ _ hc
                    rw [hc] at qc hX
                    rw [R.bind_ok] at hX
                    have H9 : Hid _ := And.intro qc (And.intro hX (And.intro hff (And.intro ho8 tc)))
                    clear qc hX hff hi8 ho8 hf8 hc tc
                    go_wp2_with fail
                    refine Calls.mono H9.out.1 ?_
                    rintro e w9 ⟨a9, c9, rfl, o9, hi9, hf9⟩
                    have hkl9 := hi9.kl
                    have ho9 := own_fro H9.out.2.2.2.1 hf9 hPw
                    have qm := minus_p _ _ _ _ w9 ho9.sl o9.sl HSC.out.1 H9.out.2.2.2.2 (by have := HSC.out.2; omega)
                    have H10 : Hid _ := And.intro qm (And.intro hi9 (And.intro (H9.out.2.2.1.trans hf9) H9.out.2.1))
                    clear o9 hi9 hf9 ho9 qm
                    go_wp2_with fail
                    refine Calls.mono H10.out.1 ?_
                    rintro e w10 ⟨v10, s10, n10, rfl, hn10, hb10, o10, hl10, hbb⟩
                    have hs10 := mn_same HSC.out.1 H9.out.2.2.2.2 hn10 hb10
                    subst hs10
                    obtain ⟨a10, c10, rfl⟩ := own_form o10
                    have hX := H10.out.2.2.2
                    have hi10 := H10.out.2.1.below hbb
                    have hf10 := H10.out.2.2.1.trans (Fro.below hbb)
                    have ho10 := o10.mono H10.out.2.2.1.size
                    have ql := leave_p (o := o) 93 hi10 (by omega)
                    clear hn10 hb10 o10 hl10 hbb
                    cases hl : sgnS l 93 k9 with
                    | bad p er =>
                      rw [hl] at ql hX
                      have H11 : Hid _ := And.intro ql (And.intro hX hf10)
                      clear ql hX hf10 hi10 ho10 hl
                      go_wp2_with fail
                      refine Calls.mono H11.out.1 ?_
                      rintro e w11 ⟨rfl, hf11⟩
                      exact ⟨rfl, ms_bad H11.out.2.1 (H11.out.2.2.trans hf11)⟩
                    | ok u k11 =>
                      rw [hl] at ql hX
                      rw [R.bind_ok] at hX
                      have H11 : Hid _ := And.intro ql (And.intro hX (And.intro hf10 ho10))
                      clear ql hX hf10 hi10 ho10 hl
                      go_wp2_with fail
                      refine Calls.mono H11.out.1 ?_
                      rintro e w11 ⟨rfl, hi11, hf11⟩
                      have H12 : Hid _ := And.intro (own_fro H11.out.2.2.2 hf11 hPw) (And.intro hi11 (H11.out.2.2.1.trans hf11))
                      clear hi11 hf11
                      go_wp2_with fail
                      go_ret
                      exact ms_ok H11.out.2.1 rfl H12.out.1 H12.out.2.1 H12.out.2.2
              | true =>
                have qn := not_p _ _ w5 o5.sl (ofR_ok acc).cn (by omega)
                have H5 : Hid _ := And.intro qn (And.intro (H4.out.2.2.1.below hb5) (H4.out.2.2.2.1.trans (Fro.below hb5)))
                clear hof o5 hl5 hb5 qn
                go_wp2_with fail
                refine Calls.mono H5.out.1 ?_
                rintro e w6 ⟨v6, s6, rfl, hnot, o6, hl6, hb6⟩
                have hs6 := not_same (ofR_ok acc).cn hnot
                subst hs6
                obtain ⟨a6, c6, rfl⟩ := own_form o6
                have H7 : Hid (Own .i32 64 w6 w.heap.size (.slice a6 (notR 0 (ofR acc)).length c6) (notR 0 (ofR acc)) ∧ In P w6 vb l j (o + 1) ∧ Fro (fun j => j = P) w w6 ∧ (if skB l 45 j = true then (clsS l f (o + 1) (j + 1)).bind fun t k4 => (sgnS l 93 k4).bind fun _ k5 => .ok (mnF (notR 0 (ofR acc)) t) k5 else (sgnS l 93 j).bind fun _ k5 => .ok (notR 0 (ofR acc)) k5) = X) := ⟨o6.mono H5.out.2.2.size, H5.out.2.1.below hb6, H5.out.2.2.trans (Fro.below hb6), H4.out.2.1⟩
                have HSC : Hid (Cn (notR 0 (ofR acc)) ∧ (notR 0 (ofR acc)).length ≤ acc.length + 1) := H4.out.2.2.2.2
                clear hnot o6 hl6 hb6 H4 H5
                have qd := skip_p 45 H7.out.2.1 (by omega)
                have hX := H7.out.2.2.2
                cases h45 : skB l 45 j with
                | false =>
                  rw [h45] at qd hX
                  rw [if_neg (by decide)] at hX
                  have H8 : Hid _ := And.intro qd hX
                  clear qd hX h45
                  go_wp2_with fail
                  refine Calls.mono H8.out.1 ?_
                  rintro e w8 ⟨rfl, hi8, hf8⟩
                  rw [if_neg (by decide)] at hi8
                  have ho8 := own_fro H7.out.1 hf8 hPw
                  have hff := H7.out.2.2.1.trans hf8
                  have hX := H8.out.2
                  have ql := leave_p (o := o) 93 hi8 (by omega)
                  cases hl : sgnS l 93 j with
                  | bad p er =>
                    rw [hl] at ql hX
                    have H9 : Hid _ := And.intro ql (And.intro hX hff)
                    clear ql hX hff hi8 ho8 hf8 hl
                    go_wp2_with fail
                    refine Calls.mono H9.out.1 ?_
                    rintro e w9 ⟨rfl, hf9⟩
                    exact ⟨rfl, ms_bad H9.out.2.1 (H9.out.2.2.trans hf9)⟩
                  | ok u k9 =>
                    rw [hl] at ql hX
                    rw [R.bind_ok] at hX
                    have H9 : Hid _ := And.intro ql (And.intro hX (And.intro hff ho8))
                    clear ql hX hff hi8 ho8 hf8 hl
                    go_wp2_with fail
                    refine Calls.mono H9.out.1 ?_
                    rintro e w9 ⟨rfl, hi9, hf9⟩
                    have H10 : Hid _ := And.intro (own_fro H9.out.2.2.2 hf9 hPw) (And.intro hi9 (H9.out.2.2.1.trans hf9))
                    clear hi9 hf9
                    go_wp2_with fail
                    go_ret
                    exact ms_ok H9.out.2.1 rfl H10.out.1 H10.out.2.1 H10.out.2.2
                | true =>
                  have hce := ce_dash HCE.out h45
                  rw [h45] at qd hX
                  rw [if_pos rfl] at hX
                  have H8 : Hid _ := And.intro qd hX
                  clear qd hX h45
                  go_wp2_with fail
                  refine Calls.mono H8.out.1 ?_
                  rintro e w8 ⟨rfl, hi8, hf8⟩
                  rw [if_pos rfl] at hi8
                  have ho8 := own_fro H7.out.1 hf8 hPw
                  have hff := H7.out.2.2.1.trans hf8
                  have hX := H8.out.2
                  have qc := IH.out (j + 1) (o + 1) w8 hi8 hce (by omega)
                  cases hc : clsS l f (o + 1) (j + 1) with
                  | bad p er =>
                    rw [hc] at qc hX
                    have H9 : Hid _ := And.intro qc (And.intro hX hff)
                    clear qc hX hff hi8 ho8 hf8 hc
                    go_wp2_with fail
                    refine Calls.mono H9.out.1 ?_
                    rintro e w9 ⟨rfl, hf9⟩
                    exact ⟨rfl, ms_bad H9.out.2.1 (H9.out.2.2.trans hf9)⟩
                  | ok t k9 =>
                    obtain ⟨tc, tl, tk⟩ := cls_ok HBT.out _ _ _ _ _ hc
                    rw [hc] at qc hX
                    rw [R.bind_ok] at hX
                    have H9 : Hid _ := And.intro qc (And.intro hX (And.intro hff (And.intro ho8 tc)))
                    clear qc hX hff hi8 ho8 hf8 hc tc
                    go_wp2_with fail
                    refine Calls.mono H9.out.1 ?_
                    rintro e w9 ⟨a9, c9, rfl, o9, hi9, hf9⟩
                    have hkl9 := hi9.kl
                    have ho9 := own_fro H9.out.2.2.2.1 hf9 hPw
                    have qm := minus_p _ _ _ _ w9 ho9.sl o9.sl HSC.out.1 H9.out.2.2.2.2 (by have := HSC.out.2; omega)
                    have H10 : Hid _ := And.intro qm (And.intro hi9 (And.intro (H9.out.2.2.1.trans hf9) H9.out.2.1))
                    clear o9 hi9 hf9 ho9 qm
                    go_wp2_with fail
                    refine Calls.mono H10.out.1 ?_
                    rintro e w10 ⟨v10, s10, n10, rfl, hn10, hb10, o10, hl10, hbb⟩
                    have hs10 := mn_same HSC.out.1 H9.out.2.2.2.2 hn10 hb10
                    subst hs10
                    obtain ⟨a10, c10, rfl⟩ := own_form o10
                    have hX := H10.out.2.2.2
                    have hi10 := H10.out.2.1.below hbb
                    have hf10 := H10.out.2.2.1.trans (Fro.below hbb)
                    have ho10 := o10.mono H10.out.2.2.1.size
                    have ql := leave_p (o := o) 93 hi10 (by omega)
                    clear hn10 hb10 o10 hl10 hbb
                    cases hl : sgnS l 93 k9 with
                    | bad p er =>
                      rw [hl] at ql hX
                      have H11 : Hid _ := And.intro ql (And.intro hX hf10)
                      clear ql hX hf10 hi10 ho10 hl
                      go_wp2_with fail
                      refine Calls.mono H11.out.1 ?_
                      rintro e w11 ⟨rfl, hf11⟩
                      exact ⟨rfl, ms_bad H11.out.2.1 (H11.out.2.2.trans hf11)⟩
                    | ok u k11 =>
                      rw [hl] at ql hX
                      rw [R.bind_ok] at hX
                      have H11 : Hid _ := And.intro ql (And.intro hX (And.intro hf10 ho10))
                      clear ql hX hf10 hi10 ho10 hl
                      go_wp2_with fail
                      refine Calls.mono H11.out.1 ?_
                      rintro e w11 ⟨rfl, hi11, hf11⟩
                      have H12 : Hid _ := And.intro (own_fro H11.out.2.2.2 hf11 hPw) (And.intro hi11 (H11.out.2.2.1.trans hf11))
                      clear hi11 hf11
                      go_wp2_with fail
                      go_ret
                      exact ms_ok H11.out.2.1 rfl H12.out.1 H12.out.2.1 H12.out.2.2
end Go.Proofs.Ythlkbijpphdblaa
