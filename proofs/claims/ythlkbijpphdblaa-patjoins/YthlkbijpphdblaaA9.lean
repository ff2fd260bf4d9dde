/- The reader: a member of a class. -/
import Derived.Test.YthlkbijpphdblaaA8
namespace Go.Proofs.Ythlkbijpphdblaa
open Go.RowKit
set_option linter.unusedVariables false

theorem dec_rg {l : Bs} (hb : 0 ≤ l.getD 0 0) (h : (dec l).2 ≠ 0) : 0 ≤ (dec l).1 ∧ (dec l).1 ≤ 1114111 := by
  have hf : ∀ r n : Int, n ≠ 0 → n ≠ 1 → (fin r n).2 ≠ 0 → 0 ≤ (fin r n).1 ∧ (fin r n).1 ≤ 1114111 := fun r n h0 h1 h2 => by
    unfold fin at h2 ⊢
    by_cases c : wid r = n
    · rw [if_pos c]
      unfold wid at c
      dsimp only
      repeat' split at c
      all_goals omega
    · rw [if_neg c] at h2
      simp at h2
  unfold dec at h ⊢
  by_cases c0 : l.length = 0
  · rw [if_pos c0] at h; simp at h
  rw [if_neg c0] at h ⊢
  by_cases c1 : l.getD 0 0 < 128
  · rw [if_pos c1]; dsimp only; omega
  rw [if_neg c1] at h ⊢
  by_cases c2 : l.getD 0 0 < 192
  · rw [if_pos c2] at h; simp at h
  rw [if_neg c2] at h ⊢
  by_cases c3 : l.getD 0 0 < 224
  · rw [if_pos c3] at h ⊢
    by_cases d : 2 ≤ l.length
    · rw [if_pos d] at h ⊢
      unfold dec2 at h ⊢
      split
      · rename_i q; rw [if_pos q] at h; exact hf _ _ (by omega) (by omega) h
      · rename_i q; rw [if_neg q] at h; simp at h
    · rw [if_neg d] at h; simp at h
  rw [if_neg c3] at h ⊢
  by_cases c4 : l.getD 0 0 < 240
  · rw [if_pos c4] at h ⊢
    by_cases d : 3 ≤ l.length
    · rw [if_pos d] at h ⊢
      unfold dec3 at h ⊢
      split
      · rename_i q; rw [if_pos q] at h; exact hf _ _ (by omega) (by omega) h
      · rename_i q; rw [if_neg q] at h; simp at h
    · rw [if_neg d] at h; simp at h
  rw [if_neg c4] at h ⊢
  by_cases c5 : l.getD 0 0 < 248
  · rw [if_pos c5] at h ⊢
    by_cases d : 4 ≤ l.length
    · rw [if_pos d] at h ⊢
      unfold dec4 at h ⊢
      split
      · rename_i q; rw [if_pos q] at h; exact hf _ _ (by omega) (by omega) h
      · rename_i q; rw [if_neg q] at h; simp at h
    · rw [if_neg d] at h; simp at h
  · rw [if_neg c5] at h; simp at h
theorem lt_rg {l : Bs} {k : Nat} (hb : ∀ i, 0 ≤ l.getD i 0 ∧ l.getD i 0 < 256) (h : ln l k ≠ 0) : 0 ≤ lt l k ∧ lt l k ≤ 1114111 := by
  refine dec_rg ?_ (by unfold ln at h; omega)
  have e : (l.drop k).getD 0 0 = l.getD k 0 := by simp [List.getD_eq_getElem?_getD]
  rw [e]
  exact (hb k).1
/-- A letter or an escape of a class. -/
def sgS (l : Bs) (first : Bool) (k : Nat) : R (List Rg) := (letS l k).bind fun p _ =>
  if p.1 = 92 then epS l k
  else if p.1 = 91 then .bad k 2
  else if p.1 = 93 then .bad k 2
  else if p.1 = 45 ∧ first = false then (ldS l k).bind fun b _ => if b = true then .ok [(45, 45)] (k + p.2) else .bad k 2
  else .ok [(p.1, p.1)] (k + p.2)
set_option maxHeartbeats 4000000 in
theorem single_p {P k o : Nat} {w : World} {vb : Value} {l : Bs} (first : Bool) (h : In P w vb l k o) : Calls Try.prog 95 #[pp P, .bool first] w fun e w' => MvS P w vb l o (sgS l first k) e w' := by
  obtain ⟨X, hX⟩ : ∃ X, sgS l first k = X := ⟨_, rfl⟩
  rw [hX]
  unfold sgS at hX
  have hll := h.ll
  have hbt := h.br.bt
  have hPw := lt_of h.ps
  have q := letter_p h k h.kl
  obtain ⟨⟨c0, c1, c2⟩, f0, f1, f2⟩ := cells3 h.ps
  by_cases hn : ln l k = 0
  · rw [let_bad hn] at q hX
    have HQ : Hid _ := And.intro q hX
    clear q h hX hn hbt
    go_enter Try.func95, Try.ntmps95
    go_wp2_with fail
    refine Calls.mono HQ.out.1 ?_
    rintro e w1 ⟨rfl, m, hw⟩
    exact ⟨rfl, ms_bad HQ.out.2 (fro_of hw)⟩
  have hk := ln_end hn
  have hrg := lt_rg hbt hn
  rw [let_ok hn] at q hX
  rw [R.bind_ok] at hX
  have hle := ln_le l k h.kl
  generalize lt l k = r at *
  generalize ln l k = n at *
  dsimp only at hX
  have HX : Hid _ := hX
  have HQ : Hid _ := And.intro q h
  obtain ⟨r0, r1⟩ := hrg
  clear q h hX hbt
  go_enter Try.func95, Try.ntmps95
  go_wp2_with fail
  refine Calls.mono HQ.out.1 ?_
  rintro e w1 ⟨rfl, m, hw⟩
  have hi1 := HQ.out.2.dr hw
  have hf1 : Fro (fun j => j = P) w w1 := fro_of hw
  have qf := fun U => fail_p P (k : Int) U
  have HI : Hid _ := And.intro hi1 (And.intro hf1 qf)
  clear c0 c1 c2 f0 f1 f2 hw HQ qf hf1
  obtain ⟨⟨c0, c1, c2⟩, f0, f1, f2⟩ := cells3 hi1.ps
  clear hi1
  by_cases e92 : r = 92
  · have hX := HX.out
    rw [if_pos e92] at hX
    subst e92
    have hj := escape_p HI.out.1 hk
    cases hr : epS l k with
    | bad p er =>
      rw [hr] at hj hX
      have HJ : Hid _ := And.intro hj hX
      clear hj hX HX hr
      go_wp2_with fail
      refine Calls.mono HJ.out.1 ?_
      rintro e w2 ⟨rfl, hf⟩
      exact ⟨rfl, ms_bad HJ.out.2 (HI.out.2.1.trans hf)⟩
    | ok s k2 =>
      rw [hr] at hj hX
      have HJ : Hid _ := And.intro hj hX
      clear hj hX HX hr
      go_wp2_with fail
      refine Calls.mono HJ.out.1 ?_
      rintro e w2 ⟨a2, c2, rfl, o2, hi2, hf2⟩
      have H3 : Hid _ := And.intro (o2.mono HI.out.2.1.size) (And.intro hi2 (HI.out.2.1.trans hf2))
      clear o2 hi2 hf2
      go_wp2_with fail
      go_ret
      exact ms_ok HJ.out.2 rfl H3.out.1 H3.out.2.1 H3.out.2.2
  by_cases e91 : r = 91
  · have hX := HX.out
    rw [if_neg e92, if_pos e91] at hX
    subst e91
    have HJ : Hid _ := hX
    clear hX HX
    go_wp2_with fail
    refine Calls.mono (HI.out.2.2 _) ?_
    rintro e w2 ⟨rfl, hw⟩
    subst hw
    exact ⟨rfl, ms_bad HJ.out HI.out.2.1⟩
  by_cases e93 : r = 93
  · have hX := HX.out
    rw [if_neg e92, if_neg e91, if_pos e93] at hX
    subst e93
    have HJ : Hid _ := hX
    clear hX HX
    go_wp2_with fail
    refine Calls.mono (HI.out.2.2 _) ?_
    rintro e w2 ⟨rfl, hw⟩
    subst hw
    exact ⟨rfl, ms_bad HJ.out HI.out.2.1⟩
  have hX := HX.out
  rw [if_neg e92, if_neg e91, if_neg e93] at hX
  clear HX
  by_cases e45 : r = 45
  · subst e45
    cases first with
    | false =>
      rw [if_pos ⟨rfl, rfl⟩] at hX
      have ql := last_p HI.out.1 hk
      cases hr : ldS l k with
      | bad p er =>
        rw [hr] at ql hX
        have HJ : Hid _ := And.intro ql hX
        clear ql hX hr
        go_wp2_with fail
        refine Calls.mono HJ.out.1 ?_
        rintro e w2 ⟨rfl, m2, hw⟩
        exact ⟨rfl, ms_bad HJ.out.2 (HI.out.2.1.trans (fro_of hw))⟩
      | ok b k2 =>
        rw [hr] at ql hX
        rw [R.bind_ok] at hX
        cases b with
        | false =>
          rw [if_neg (by decide)] at hX
          have HJ : Hid _ := And.intro ql hX
          clear ql hX hr
          go_wp2_with fail
          refine Calls.mono HJ.out.1 ?_
          rintro e w2 ⟨rfl, m2, hw⟩
          have hi2 := HI.out.1.dr hw
          have hf2 := HI.out.2.1.trans (fro_of hw)
          clear c0 c1 c2 f0 f1 f2 hw
          obtain ⟨⟨c0, c1, c2⟩, f0, f1, f2⟩ := cells3 hi2.ps
          have H2 : Hid _ := hf2
          clear hi2 hf2
          go_wp2_with fail
          refine Calls.mono (HI.out.2.2 _) ?_
          rintro e w3 ⟨rfl, hw⟩
          subst hw
          exact ⟨rfl, ms_bad HJ.out.2 H2.out⟩
        | true =>
          rw [if_pos rfl] at hX
          have HJ : Hid _ := And.intro ql hX
          clear ql hX hr
          go_wp2_with fail
          refine Calls.mono HJ.out.1 ?_
          rintro e w2 ⟨rfl, m2, hw⟩
          have hi2 := HI.out.1.dr hw
          have hf2 := HI.out.2.1.trans (fro_of hw)
          clear c0 c1 c2 f0 f1 f2 hw
          obtain ⟨⟨c0, c1, c2⟩, f0, f1, f2⟩ := cells3 hi2.ps
          have hs := set_at hi2 (k + n) ((k : Int) + (n : Int)) (by omega) hle
          have H2 : Hid _ := And.intro hs.1 (hf2.trans hs.2)
          clear hi2 hf2 hs
          go_wp2_with fail
          refine Calls.mono (just_p 45 _ (by omega) (by omega)) ?_
          rintro e w3 ⟨a3, c3, rfl, o3, hb3⟩
          have H3 : Hid _ := And.intro (o3.mono H2.out.2.size) (And.intro (H2.out.1.below hb3) (H2.out.2.trans (Fro.below hb3)))
          clear o3 hb3
          go_wp2_with fail
          go_ret
          exact ms_ok HJ.out.2 rfl H3.out.1 H3.out.2.1 H3.out.2.2
    | true =>
      rw [if_neg (fun q => by cases q.2)] at hX
      have hs := set_at HI.out.1 (k + n) ((k : Int) + (n : Int)) (by omega) hle
      have H2 : Hid _ := And.intro hs.1 (And.intro (HI.out.2.1.trans hs.2) hX)
      clear hs hX
      go_wp2_with fail
      refine Calls.mono (just_p 45 _ (by omega) (by omega)) ?_
      rintro e w3 ⟨a3, c3, rfl, o3, hb3⟩
      have H3 : Hid _ := And.intro (o3.mono H2.out.2.1.size) (And.intro (H2.out.1.below hb3) (H2.out.2.1.trans (Fro.below hb3)))
      clear o3 hb3
      go_wp2_with fail
      go_ret
      exact ms_ok H2.out.2.2 rfl H3.out.1 H3.out.2.1 H3.out.2.2
  · rw [if_neg (fun q => e45 q.1)] at hX
    have hs := set_at HI.out.1 (k + n) ((k : Int) + (n : Int)) (by omega) hle
    have H2 : Hid _ := And.intro hs.1 (And.intro (HI.out.2.1.trans hs.2) hX)
    clear hs hX
    go_wp2_with fail
    refine Calls.mono (just_p r _ r0 r1) ?_
    rintro e w3 ⟨a3, c3, rfl, o3, hb3⟩
    have H3 : Hid _ := And.intro (o3.mono H2.out.2.1.size) (And.intro (H2.out.1.below hb3) (H2.out.2.1.trans (Fro.below hb3)))
    clear o3 hb3
    go_wp2_with fail
    go_ret
    exact ms_ok H2.out.2.2 rfl H3.out.1 H3.out.2.1 H3.out.2.2
end Go.Proofs.Ythlkbijpphdblaa
