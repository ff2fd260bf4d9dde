/- The reader: an escape. -/
import Derived.Test.YthlkbijpphdblaaA7
namespace Go.Proofs.Ythlkbijpphdblaa
open Go.RowKit
set_option linter.unusedVariables false

/-- An escape, from its stroke on. -/
def epS (l : Bs) (k : Nat) : R (List Rg) := (letS l (k + 1)).bind fun p _ =>
  if p.1 = 46 then .ok [(46, 46)] (k + 1 + p.2) else
  if p.1 = 92 then .ok [(92, 92)] (k + 1 + p.2) else
  if p.1 = 63 then .ok [(63, 63)] (k + 1 + p.2) else
  if p.1 = 42 then .ok [(42, 42)] (k + 1 + p.2) else
  if p.1 = 43 then .ok [(43, 43)] (k + 1 + p.2) else
  if p.1 = 40 then .ok [(40, 40)] (k + 1 + p.2) else
  if p.1 = 41 then .ok [(41, 41)] (k + 1 + p.2) else
  if p.1 = 124 then .ok [(124, 124)] (k + 1 + p.2) else
  if p.1 = 91 then .ok [(91, 91)] (k + 1 + p.2) else
  if p.1 = 93 then .ok [(93, 93)] (k + 1 + p.2) else
  if p.1 = 123 then .ok [(123, 123)] (k + 1 + p.2) else
  if p.1 = 125 then .ok [(125, 125)] (k + 1 + p.2) else
  if p.1 = 45 then .ok [(45, 45)] (k + 1 + p.2) else
  if p.1 = 94 then .ok [(94, 94)] (k + 1 + p.2) else
  if p.1 = 110 then .ok [(10, 10)] (k + 1 + p.2) else
  if p.1 = 114 then .ok [(13, 13)] (k + 1 + p.2) else
  if p.1 = 116 then .ok [(9, 9)] (k + 1 + p.2) else
  if p.1 = 112 then ctgS l k (k + 1 + p.2) else
  if p.1 = 80 then (ctgS l k (k + 1 + p.2)).bind fun s k => .ok (notR 0 s) k else
  if (escS (p.1 % 256)).2 = true ∧ ¬ 1 < p.2 then .ok (escS (p.1 % 256)).1 (k + 1 + p.2) else .bad k 2
theorem ctg_ok {l : Bs} {bg : Int} {k k' : Nat} {s : List Rg} (h : ctgS l bg k = .ok s k') : Cn s ∧ s.length ≤ 100 := by
  unfold ctgS at h
  cases h1 : sgnS l 123 k with
  | bad p e => rw [h1] at h; cases h
  | ok u k1 =>
    rw [h1, R.bind_ok] at h
    cases h2 : nmS l (l.length + 1) k1 with
    | bad p e => rw [h2] at h; cases h
    | ok u k2 =>
      rw [h2, R.bind_ok] at h
      split at h
      · injection h with h3 h4
        rw [← h3]
        exact cat_ok _
      · cases h
set_option maxHeartbeats 8000000 in
theorem escape_p {P k o : Nat} {w : World} {vb : Value} {l : Bs} (h : In P w vb l k o) (hk : k < l.length) : Calls Try.prog 75 #[pp P] w fun e w' => MvS P w vb l o (epS l k) e w' := by
  obtain ⟨X, hX⟩ : ∃ X, epS l k = X := ⟨_, rfl⟩
  rw [hX]
  unfold epS at hX
  have hll := h.ll
  have hPw := lt_of h.ps
  have q := letter_p h (k + 1) hk
  have hkk : ((k + 1 : Nat) : Int) = (k : Int) + 1 := by omega
  rw [hkk] at q
  obtain ⟨⟨c0, c1, c2⟩, f0, f1, f2⟩ := cells3 h.ps
  by_cases hn : ln l (k + 1) = 0
  · rw [let_bad hn] at q hX
    have HQ : Hid _ := And.intro q hX
    clear q h hX hn
    go_enter Try.func75, Try.ntmps75
    go_wp2_with fail
    refine Calls.mono HQ.out.1 ?_
    rintro e w1 ⟨rfl, m, hw⟩
    exact ⟨rfl, ms_bad HQ.out.2 (fro_of hw)⟩
  rw [let_ok hn] at q hX
  rw [R.bind_ok] at hX
  have hle := ln_le l (k + 1) hk
  have h4 := ln_four l (k + 1)
  generalize lt l (k + 1) = r at *
  generalize ln l (k + 1) = n at *
  dsimp only at hX
  have HX : Hid _ := hX
  have HQ : Hid _ := And.intro q h
  clear q h hX hkk
  go_enter Try.func75, Try.ntmps75
  go_wp2_with fail
  refine Calls.mono HQ.out.1 ?_
  rintro e w1 ⟨rfl, m, hw⟩
  have hi1 := HQ.out.2.dr hw
  have hf1 : Fro (fun j => j = P) w w1 := fro_of hw
  clear c0 c1 c2 f0 f1 f2 hw HQ
  obtain ⟨⟨c0, c1, c2⟩, f0, f1, f2⟩ := cells3 hi1.ps
  have hs := set_at hi1 (k + 1 + n) ((k : Int) + (1 + (n : Int))) (by omega) hle
  have hi2 := hs.1
  have hf2 := hf1.trans hs.2
  clear hi1 hf1 hs
  go_upto_region 4 with fail
  obtain ⟨W, hW⟩ : ∃ W, w1.setCell ⟨P, 1, none⟩ (.int .i64 ((k : Int) + (1 + (n : Int)))) = W := ⟨_, rfl⟩
  rw [hW] at hi2 hf2 ⊢
  have HI : Hid _ := And.intro hi2 hf2
  clear hi2 hf2 hW c0 c1 c2 f0 f1 f2
  by_cases e46 : r = 46
  · have hX := HX.out
    rw [if_pos e46] at hX
    subst e46
    have hj := just_p 46 W (by omega) (by omega)
    have HJ : Hid _ := And.intro hj hX
    clear hj hX HX
    go_wp2_with fail
    refine Calls.mono HJ.out.1 ?_
    rintro e w2 ⟨a2, c2, rfl, o2, hb2⟩
    have hi3 := HI.out.1.below hb2
    have hf3 := HI.out.2.trans (Fro.below hb2)
    have H3 : Hid _ := And.intro (o2.mono HI.out.2.size) (And.intro hi3 hf3)
    clear o2 hb2 hi3 hf3
    go_wp2_with fail
    go_ret
    exact ms_ok HJ.out.2 rfl H3.out.1 H3.out.2.1 H3.out.2.2
  by_cases e92 : r = 92
  · have hX := HX.out
    rw [if_neg e46] at hX
    rw [if_pos e92] at hX
    subst e92
    have hj := just_p 92 W (by omega) (by omega)
    have HJ : Hid _ := And.intro hj hX
    clear hj hX HX
    go_wp2_with fail
    refine Calls.mono HJ.out.1 ?_
    rintro e w2 ⟨a2, c2, rfl, o2, hb2⟩
    have hi3 := HI.out.1.below hb2
    have hf3 := HI.out.2.trans (Fro.below hb2)
    have H3 : Hid _ := And.intro (o2.mono HI.out.2.size) (And.intro hi3 hf3)
    clear o2 hb2 hi3 hf3
    go_wp2_with fail
    go_ret
    exact ms_ok HJ.out.2 rfl H3.out.1 H3.out.2.1 H3.out.2.2
  by_cases e63 : r = 63
  · have hX := HX.out
    rw [if_neg e46, if_neg e92] at hX
    rw [if_pos e63] at hX
    subst e63
    have hj := just_p 63 W (by omega) (by omega)
    have HJ : Hid _ := And.intro hj hX
    clear hj hX HX
    go_wp2_with fail
    refine Calls.mono HJ.out.1 ?_
    rintro e w2 ⟨a2, c2, rfl, o2, hb2⟩
    have hi3 := HI.out.1.below hb2
    have hf3 := HI.out.2.trans (Fro.below hb2)
    have H3 : Hid _ := And.intro (o2.mono HI.out.2.size) (And.intro hi3 hf3)
    clear o2 hb2 hi3 hf3
    go_wp2_with fail
    go_ret
    exact ms_ok HJ.out.2 rfl H3.out.1 H3.out.2.1 H3.out.2.2
  by_cases e42 : r = 42
  · have hX := HX.out
    rw [if_neg e46, if_neg e92, if_neg e63] at hX
    rw [if_pos e42] at hX
    subst e42
    have hj := just_p 42 W (by omega) (by omega)
    have HJ : Hid _ := And.intro hj hX
    clear hj hX HX
    go_wp2_with fail
    refine Calls.mono HJ.out.1 ?_
    rintro e w2 ⟨a2, c2, rfl, o2, hb2⟩
    have hi3 := HI.out.1.below hb2
    have hf3 := HI.out.2.trans (Fro.below hb2)
    have H3 : Hid _ := And.intro (o2.mono HI.out.2.size) (And.intro hi3 hf3)
    clear o2 hb2 hi3 hf3
    go_wp2_with fail
    go_ret
    exact ms_ok HJ.out.2 rfl H3.out.1 H3.out.2.1 H3.out.2.2
  by_cases e43 : r = 43
  · have hX := HX.out
    rw [if_neg e46, if_neg e92, if_neg e63, if_neg e42] at hX
    rw [if_pos e43] at hX
    subst e43
    have hj := just_p 43 W (by omega) (by omega)
    have HJ : Hid _ := And.intro hj hX
    clear hj hX HX
    go_wp2_with fail
    refine Calls.mono HJ.out.1 ?_
    rintro e w2 ⟨a2, c2, rfl, o2, hb2⟩
    have hi3 := HI.out.1.below hb2
    have hf3 := HI.out.2.trans (Fro.below hb2)
    have H3 : Hid _ := And.intro (o2.mono HI.out.2.size) (And.intro hi3 hf3)
    clear o2 hb2 hi3 hf3
    go_wp2_with fail
    go_ret
    exact ms_ok HJ.out.2 rfl H3.out.1 H3.out.2.1 H3.out.2.2
  by_cases e40 : r = 40
  · have hX := HX.out
    rw [if_neg e46, if_neg e92, if_neg e63, if_neg e42, if_neg e43] at hX
    rw [if_pos e40] at hX
    subst e40
    have hj := just_p 40 W (by omega) (by omega)
    have HJ : Hid _ := And.intro hj hX
    clear hj hX HX
    go_wp2_with fail
    refine Calls.mono HJ.out.1 ?_
    rintro e w2 ⟨a2, c2, rfl, o2, hb2⟩
    have hi3 := HI.out.1.below hb2
    have hf3 := HI.out.2.trans (Fro.below hb2)
    have H3 : Hid _ := And.intro (o2.mono HI.out.2.size) (And.intro hi3 hf3)
    clear o2 hb2 hi3 hf3
    go_wp2_with fail
    go_ret
    exact ms_ok HJ.out.2 rfl H3.out.1 H3.out.2.1 H3.out.2.2
  by_cases e41 : r = 41
  · have hX := HX.out
    rw [if_neg e46, if_neg e92, if_neg e63, if_neg e42, if_neg e43, if_neg e40] at hX
    rw [if_pos e41] at hX
    subst e41
    have hj := just_p 41 W (by omega) (by omega)
    have HJ : Hid _ := And.intro hj hX
    clear hj hX HX
    go_wp2_with fail
    refine Calls.mono HJ.out.1 ?_
    rintro e w2 ⟨a2, c2, rfl, o2, hb2⟩
    have hi3 := HI.out.1.below hb2
    have hf3 := HI.out.2.trans (Fro.below hb2)
    have H3 : Hid _ := And.intro (o2.mono HI.out.2.size) (And.intro hi3 hf3)
    clear o2 hb2 hi3 hf3
    go_wp2_with fail
    go_ret
    exact ms_ok HJ.out.2 rfl H3.out.1 H3.out.2.1 H3.out.2.2
  by_cases e124 : r = 124
  · have hX := HX.out
    rw [if_neg e46, if_neg e92, if_neg e63, if_neg e42, if_neg e43, if_neg e40, if_neg e41] at hX
    rw [if_pos e124] at hX
    subst e124
    have hj := just_p 124 W (by omega) (by omega)
    have HJ : Hid _ := And.intro hj hX
    clear hj hX HX
    go_wp2_with fail
    refine Calls.mono HJ.out.1 ?_
    rintro e w2 ⟨a2, c2, rfl, o2, hb2⟩
    have hi3 := HI.out.1.below hb2
    have hf3 := HI.out.2.trans (Fro.below hb2)
    have H3 : Hid _ := And.intro (o2.mono HI.out.2.size) (And.intro hi3 hf3)
    clear o2 hb2 hi3 hf3
    go_wp2_with fail
    go_ret
    exact ms_ok HJ.out.2 rfl H3.out.1 H3.out.2.1 H3.out.2.2
  by_cases e91 : r = 91
  · have hX := HX.out
    rw [if_neg e46, if_neg e92, if_neg e63, if_neg e42, if_neg e43, if_neg e40, if_neg e41, if_neg e124] at hX
    rw [if_pos e91] at hX
    subst e91
    have hj := just_p 91 W (by omega) (by omega)
    have HJ : Hid _ := And.intro hj hX
    clear hj hX HX
    go_wp2_with fail
    refine Calls.mono HJ.out.1 ?_
    rintro e w2 ⟨a2, c2, rfl, o2, hb2⟩
    have hi3 := HI.out.1.below hb2
    have hf3 := HI.out.2.trans (Fro.below hb2)
    have H3 : Hid _ := And.intro (o2.mono HI.out.2.size) (And.intro hi3 hf3)
    clear o2 hb2 hi3 hf3
    go_wp2_with fail
    go_ret
    exact ms_ok HJ.out.2 rfl H3.out.1 H3.out.2.1 H3.out.2.2
  by_cases e93 : r = 93
  · have hX := HX.out
    rw [if_neg e46, if_neg e92, if_neg e63, if_neg e42, if_neg e43, if_neg e40, if_neg e41, if_neg e124, if_neg e91] at hX
    rw [if_pos e93] at hX
    subst e93
    have hj := just_p 93 W (by omega) (by omega)
    have HJ : Hid _ := And.intro hj hX
    clear hj hX HX
    go_wp2_with fail
    refine Calls.mono HJ.out.1 ?_
    rintro e w2 ⟨a2, c2, rfl, o2, hb2⟩
    have hi3 := HI.out.1.below hb2
    have hf3 := HI.out.2.trans (Fro.below hb2)
    have H3 : Hid _ := And.intro (o2.mono HI.out.2.size) (And.intro hi3 hf3)
    clear o2 hb2 hi3 hf3
    go_wp2_with fail
    go_ret
    exact ms_ok HJ.out.2 rfl H3.out.1 H3.out.2.1 H3.out.2.2
  by_cases e123 : r = 123
  · have hX := HX.out
    rw [if_neg e46, if_neg e92, if_neg e63, if_neg e42, if_neg e43, if_neg e40, if_neg e41, if_neg e124, if_neg e91, if_neg e93] at hX
    rw [if_pos e123] at hX
    subst e123
    have hj := just_p 123 W (by omega) (by omega)
    have HJ : Hid _ := And.intro hj hX
    clear hj hX HX
    go_wp2_with fail
    refine Calls.mono HJ.out.1 ?_
    rintro e w2 ⟨a2, c2, rfl, o2, hb2⟩
    have hi3 := HI.out.1.below hb2
    have hf3 := HI.out.2.trans (Fro.below hb2)
    have H3 : Hid _ := And.intro (o2.mono HI.out.2.size) (And.intro hi3 hf3)
    clear o2 hb2 hi3 hf3
    go_wp2_with fail
    go_ret
    exact ms_ok HJ.out.2 rfl H3.out.1 H3.out.2.1 H3.out.2.2
  by_cases e125 : r = 125
  · have hX := HX.out
    rw [if_neg e46, if_neg e92, if_neg e63, if_neg e42, if_neg e43, if_neg e40, if_neg e41, if_neg e124, if_neg e91, if_neg e93, if_neg e123] at hX
    rw [if_pos e125] at hX
    subst e125
    have hj := just_p 125 W (by omega) (by omega)
    have HJ : Hid _ := And.intro hj hX
    clear hj hX HX
    go_wp2_with fail
    refine Calls.mono HJ.out.1 ?_
    rintro e w2 ⟨a2, c2, rfl, o2, hb2⟩
    have hi3 := HI.out.1.below hb2
    have hf3 := HI.out.2.trans (Fro.below hb2)
    have H3 : Hid _ := And.intro (o2.mono HI.out.2.size) (And.intro hi3 hf3)
    clear o2 hb2 hi3 hf3
    go_wp2_with fail
    go_ret
    exact ms_ok HJ.out.2 rfl H3.out.1 H3.out.2.1 H3.out.2.2
  by_cases e45 : r = 45
  · have hX := HX.out
    rw [if_neg e46, if_neg e92, if_neg e63, if_neg e42, if_neg e43, if_neg e40, if_neg e41, if_neg e124, if_neg e91, if_neg e93, if_neg e123, if_neg e125] at hX
    rw [if_pos e45] at hX
    subst e45
    have hj := just_p 45 W (by omega) (by omega)
    have HJ : Hid _ := And.intro hj hX
    clear hj hX HX
    go_wp2_with fail
    refine Calls.mono HJ.out.1 ?_
    rintro e w2 ⟨a2, c2, rfl, o2, hb2⟩
    have hi3 := HI.out.1.below hb2
    have hf3 := HI.out.2.trans (Fro.below hb2)
    have H3 : Hid _ := And.intro (o2.mono HI.out.2.size) (And.intro hi3 hf3)
    clear o2 hb2 hi3 hf3
    go_wp2_with fail
    go_ret
    exact ms_ok HJ.out.2 rfl H3.out.1 H3.out.2.1 H3.out.2.2
  by_cases e94 : r = 94
  · have hX := HX.out
    rw [if_neg e46, if_neg e92, if_neg e63, if_neg e42, if_neg e43, if_neg e40, if_neg e41, if_neg e124, if_neg e91, if_neg e93, if_neg e123, if_neg e125, if_neg e45] at hX
    rw [if_pos e94] at hX
    subst e94
    have hj := just_p 94 W (by omega) (by omega)
    have HJ : Hid _ := And.intro hj hX
    clear hj hX HX
    go_wp2_with fail
    refine Calls.mono HJ.out.1 ?_
    rintro e w2 ⟨a2, c2, rfl, o2, hb2⟩
    have hi3 := HI.out.1.below hb2
    have hf3 := HI.out.2.trans (Fro.below hb2)
    have H3 : Hid _ := And.intro (o2.mono HI.out.2.size) (And.intro hi3 hf3)
    clear o2 hb2 hi3 hf3
    go_wp2_with fail
    go_ret
    exact ms_ok HJ.out.2 rfl H3.out.1 H3.out.2.1 H3.out.2.2
  by_cases e110 : r = 110
  · have hX := HX.out
    rw [if_neg e46, if_neg e92, if_neg e63, if_neg e42, if_neg e43, if_neg e40, if_neg e41, if_neg e124, if_neg e91, if_neg e93, if_neg e123, if_neg e125, if_neg e45, if_neg e94] at hX
    rw [if_pos e110] at hX
    subst e110
    have hj := just_p 10 W (by omega) (by omega)
    have HJ : Hid _ := And.intro hj hX
    clear hj hX HX
    go_wp2_with fail
    refine Calls.mono HJ.out.1 ?_
    rintro e w2 ⟨a2, c2, rfl, o2, hb2⟩
    have hi3 := HI.out.1.below hb2
    have hf3 := HI.out.2.trans (Fro.below hb2)
    have H3 : Hid _ := And.intro (o2.mono HI.out.2.size) (And.intro hi3 hf3)
    clear o2 hb2 hi3 hf3
    go_wp2_with fail
    go_ret
    exact ms_ok HJ.out.2 rfl H3.out.1 H3.out.2.1 H3.out.2.2
  by_cases e114 : r = 114
  · have hX := HX.out
    rw [if_neg e46, if_neg e92, if_neg e63, if_neg e42, if_neg e43, if_neg e40, if_neg e41, if_neg e124, if_neg e91, if_neg e93, if_neg e123, if_neg e125, if_neg e45, if_neg e94, if_neg e110] at hX
    rw [if_pos e114] at hX
    subst e114
    have hj := just_p 13 W (by omega) (by omega)
    have HJ : Hid _ := And.intro hj hX
    clear hj hX HX
    go_wp2_with fail
    refine Calls.mono HJ.out.1 ?_
    rintro e w2 ⟨a2, c2, rfl, o2, hb2⟩
    have hi3 := HI.out.1.below hb2
    have hf3 := HI.out.2.trans (Fro.below hb2)
    have H3 : Hid _ := And.intro (o2.mono HI.out.2.size) (And.intro hi3 hf3)
    clear o2 hb2 hi3 hf3
    go_wp2_with fail
    go_ret
    exact ms_ok HJ.out.2 rfl H3.out.1 H3.out.2.1 H3.out.2.2
  by_cases e116 : r = 116
  · have hX := HX.out
    rw [if_neg e46, if_neg e92, if_neg e63, if_neg e42, if_neg e43, if_neg e40, if_neg e41, if_neg e124, if_neg e91, if_neg e93, if_neg e123, if_neg e125, if_neg e45, if_neg e94, if_neg e110, if_neg e114] at hX
    rw [if_pos e116] at hX
    subst e116
    have hj := just_p 9 W (by omega) (by omega)
    have HJ : Hid _ := And.intro hj hX
    clear hj hX HX
    go_wp2_with fail
    refine Calls.mono HJ.out.1 ?_
    rintro e w2 ⟨a2, c2, rfl, o2, hb2⟩
    have hi3 := HI.out.1.below hb2
    have hf3 := HI.out.2.trans (Fro.below hb2)
    have H3 : Hid _ := And.intro (o2.mono HI.out.2.size) (And.intro hi3 hf3)
    clear o2 hb2 hi3 hf3
    go_wp2_with fail
    go_ret
    exact ms_ok HJ.out.2 rfl H3.out.1 H3.out.2.1 H3.out.2.2
  by_cases e112 : r = 112
  · have hX := HX.out
    rw [if_neg e46, if_neg e92, if_neg e63, if_neg e42, if_neg e43, if_neg e40, if_neg e41, if_neg e124, if_neg e91, if_neg e93, if_neg e123, if_neg e125, if_neg e45, if_neg e94, if_neg e110, if_neg e114, if_neg e116] at hX
    rw [if_pos e112] at hX
    subst e112
    have hj := category_p (k : Int) HI.out.1
    cases hr : ctgS l (k : Int) (k + 1 + n) with
    | bad p er =>
      rw [hr] at hj hX
      have HJ : Hid _ := And.intro hj hX
      clear hj hX HX hr
      go_wp2_with fail
      refine Calls.mono HJ.out.1 ?_
      rintro e w2 ⟨rfl, hf⟩
      exact ⟨rfl, ms_bad HJ.out.2 (HI.out.2.trans hf)⟩
    | ok s k2 =>
      rw [hr] at hj hX
      have HJ : Hid _ := And.intro hj hX
      clear hj hX HX hr
      go_wp2_with fail
      refine Calls.mono HJ.out.1 ?_
      rintro e w2 ⟨a2, c2, rfl, o2, hi2, hf2⟩
      have H3 : Hid _ := And.intro (o2.mono HI.out.2.size) (And.intro hi2 (HI.out.2.trans hf2))
      clear o2 hi2 hf2
      go_wp2_with fail
      go_ret
      exact ms_ok HJ.out.2 rfl H3.out.1 H3.out.2.1 H3.out.2.2
  by_cases e80 : r = 80
  · have hX := HX.out
    rw [if_neg e46, if_neg e92, if_neg e63, if_neg e42, if_neg e43, if_neg e40, if_neg e41, if_neg e124, if_neg e91, if_neg e93, if_neg e123, if_neg e125, if_neg e45, if_neg e94, if_neg e110, if_neg e114, if_neg e116, if_neg e112] at hX
    rw [if_pos e80] at hX
    subst e80
    have hj := category_p (k : Int) HI.out.1
    cases hr : ctgS l (k : Int) (k + 1 + n) with
    | bad p er =>
      rw [hr] at hj hX
      have HJ : Hid _ := And.intro hj hX
      clear hj hX HX hr
      go_wp2_with fail
      refine Calls.mono HJ.out.1 ?_
      rintro e w2 ⟨rfl, hf⟩
      exact ⟨rfl, ms_bad HJ.out.2 (HI.out.2.trans hf)⟩
    | ok s k2 =>
      have hcs := ctg_ok hr
      rw [hr] at hj hX
      rw [R.bind_ok] at hX
      have HJ : Hid _ := And.intro hj (And.intro hX hcs)
      clear hj hX HX hr hcs
      go_wp2_with fail
      refine Calls.mono HJ.out.1 ?_
      rintro e w2 ⟨a2, c2, rfl, o2, hi2, hf2⟩
      have qn := not_p _ _ w2 o2.sl HJ.out.2.2.1 (by have := HJ.out.2.2.2; omega)
      have H3 : Hid _ := And.intro qn (And.intro hi2 (HI.out.2.trans hf2))
      clear o2 hi2 hf2 qn
      go_wp2_with fail
      refine Calls.mono H3.out.1 ?_
      rintro e w3 ⟨v3, s3, rfl, hnot, o3, hl3, hb3⟩
      have hs3 := not_same HJ.out.2.2.1 hnot
      subst hs3
      have H4 : Hid _ := And.intro (o3.mono H3.out.2.2.size) (And.intro (H3.out.2.1.below hb3) (H3.out.2.2.trans (Fro.below hb3)))
      clear hnot o3 hl3 hb3
      go_wp2_with fail
      go_ret
      exact ms_ok HJ.out.2.1 rfl H4.out.1 H4.out.2.1 H4.out.2.2
  have hX := HX.out
  rw [if_neg e46, if_neg e92, if_neg e63, if_neg e42, if_neg e43, if_neg e40, if_neg e41, if_neg e124, if_neg e91, if_neg e93, if_neg e123, if_neg e125, if_neg e45, if_neg e94, if_neg e110, if_neg e114, if_neg e116, if_neg e112, if_neg e80] at hX
  have hu : IntKind.u8.wrap r = r % 256 := by rw [IntKind.wrap_u8]
  have qe := fun W => esc_p (r % 256) W
  obtain ⟨C, hC⟩ : ∃ C, escS (r % 256) = C := ⟨_, rfl⟩
  rw [hC] at qe hX
  obtain ⟨C1, C2⟩ := C
  dsimp only at hX
  clear HX hC
  cases C2 with
  | false =>
    rw [if_neg (by simp)] at hX
    have HE : Hid _ := And.intro qe (And.intro hX (fun U => fail_p P (k : Int) U))
    clear qe hX
    go_wp2_with fail
    refine Calls.mono (HE.out.1 _) ?_
    rintro e w2 ⟨a2, c2, rfl, o2, hb2⟩
    have H3 : Hid _ := HI.out.2.trans (Fro.below hb2)
    clear o2 hb2
    go_wp2_with fail
    refine Calls.mono (HE.out.2.2 _) ?_
    rintro e w3 ⟨rfl, hw⟩
    subst hw
    exact ⟨rfl, ms_bad HE.out.2.1 H3.out⟩
  | true =>
    by_cases hn1 : 1 < n
    · rw [if_neg (fun q => q.2 hn1)] at hX
      have hn2 : (1 : Int) < (n : Int) := by omega
      have HE : Hid _ := And.intro qe (And.intro hX (fun U => fail_p P (k : Int) U))
      clear qe hX
      go_wp2_with fail
      refine Calls.mono (HE.out.1 _) ?_
      rintro e w2 ⟨a2, c2, rfl, o2, hb2⟩
      have H3 : Hid _ := HI.out.2.trans (Fro.below hb2)
      clear o2 hb2
      go_wp2_with fail
      refine Calls.mono (HE.out.2.2 _) ?_
      rintro e w3 ⟨rfl, hw⟩
      subst hw
      exact ⟨rfl, ms_bad HE.out.2.1 H3.out⟩
    · rw [if_pos ⟨rfl, hn1⟩] at hX
      have hn2 : ¬ (1 : Int) < (n : Int) := by omega
      have HE : Hid _ := And.intro qe hX
      clear qe hX
      go_wp2_with fail
      refine Calls.mono (HE.out.1 _) ?_
      rintro e w2 ⟨a2, c2, rfl, o2, hb2⟩
      have H3 : Hid _ := And.intro (o2.mono HI.out.2.size) (And.intro (HI.out.1.below hb2) (HI.out.2.trans (Fro.below hb2)))
      clear o2 hb2
      go_wp2_with fail
      go_ret
      exact ms_ok HE.out.2 rfl H3.out.1 H3.out.2.1 H3.out.2.2
end Go.Proofs.Ythlkbijpphdblaa
