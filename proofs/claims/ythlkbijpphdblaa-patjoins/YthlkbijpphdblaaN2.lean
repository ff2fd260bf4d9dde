/- The program: the letters of a class. -/
import Derived.Test.YthlkbijpphdblaaN1
namespace Go.Proofs.Ythlkbijpphdblaa
open Go.RowKit
set_option linter.unusedVariables false

def ClL (P : Int → Bool) (lo : Int) (G : List Rg) : Prop := ∀ x, memB G x = (decide (0 ≤ x ∧ x < lo) && P x)
theorem cl_yes {P : Int → Bool} {lo hi : Int} {G : List Rg} (h : ClL P lo G) (h0 : 0 ≤ lo) (h1 : lo ≤ hi) (hc : ∀ x, lo ≤ x → x ≤ hi → P x = P lo) (hp : P lo = true) : ClL P (hi + 1) (G ++ [(lo, hi)]) := fun x => by
  rw [mem_app, h x, mem_cons, mem_nil, Bool.or_false]
  by_cases c : lo ≤ x ∧ x ≤ hi
  · rw [inR_iff.2 c, hc x c.1 c.2, hp, Bool.or_true]
    simp
    omega
  · have : inR (lo, hi) x = false := by
      cases e : inR (lo, hi) x with
      | false => rfl
      | true => exact absurd (inR_iff.1 e) c
    rw [this, Bool.or_false]
    have : decide (0 ≤ x ∧ x < lo) = decide (0 ≤ x ∧ x < hi + 1) := by
      rw [Bool.eq_iff_iff, decide_eq_true_eq, decide_eq_true_eq]
      omega
    rw [this]
theorem cl_no {P : Int → Bool} {lo hi : Int} {G : List Rg} (h : ClL P lo G) (h0 : 0 ≤ lo) (h1 : lo ≤ hi) (hc : ∀ x, lo ≤ x → x ≤ hi → P x = P lo) (hp : P lo = false) : ClL P (hi + 1) G := fun x => by
  rw [h x]
  by_cases c : lo ≤ x ∧ x ≤ hi
  · rw [hc x c.1 c.2, hp, Bool.and_false, Bool.and_false]
  · have : decide (0 ≤ x ∧ x < lo) = decide (0 ≤ x ∧ x < hi + 1) := by
      rw [Bool.eq_iff_iff, decide_eq_true_eq, decide_eq_true_eq]
      omega
    rw [this]
/-- All letters of a class, and no others. -/
structure ClS (P : Int → Bool) (s : List Rg) : Prop where
  cn : Cn s
  mem : ∀ x, memB s x = (decide (0 ≤ x ∧ x ≤ MX) && P x)
theorem cl_S {P : Int → Bool} {G s : List Rg} (h : ClL P 1114112 G) (ho : OfS G s) : ClS P s := ⟨ho.cn, fun x => by
  rw [ho.mem, h x]
  have : decide (0 ≤ x ∧ x < 1114112) = decide (0 ≤ x ∧ x ≤ MX) := by
    rw [Bool.eq_iff_iff, decide_eq_true_eq, decide_eq_true_eq]
    have : MX = 1114111 := rfl
    omega
  rw [this]
  cases decide (0 ≤ x ∧ x ≤ MX) <;> simp⟩
theorem cl_nil (P : Int → Bool) : ClL P 0 [] := fun x => by
  rw [mem_nil]
  have : decide (0 ≤ x ∧ x < 0) = false := by simp
  rw [this]
  rfl
def ClR (P : Int → Bool) (w : World) (lo : Int) (v3 : Value) (wr : World) : Prop := ∃ G, Cb lo G.length ∧ ClL P lo G ∧ Own .i32 64 wr w.heap.size v3 G ∧ Below w.heap.size w wr
def ClQ (P : Int → Bool) (w : World) (e : Ending) (w' : World) : Prop := ∃ v s, e = .returned v ∧ ClS P s ∧ Own .i32 64 w' w.heap.size v s ∧ s.length ≤ 261 ∧ Below w.heap.size w w'
set_option maxHeartbeats 1000000 in
theorem class_white (w : World) : Calls Try.prog 20 #[.func (.func 21) #[] #[]] w fun e w' => ClQ isWhite w e w' := by
  obtain ⟨i50, z50, hi50, hz0, hzc, hz1, hz3⟩ := info_rgp
  go_enter Try.func20, Try.ntmps20
  go_wp2_with fail
  go_loopg [3, 4] 1114112 (fun g v3 v4 wr => ∃ lo : Int, 0 ≤ lo ∧ lo + g = 1114112 ∧ v4 = .int .i32 lo ∧ ClR isWhite w lo v3 wr)
  case atStart => exact ⟨0, by omega, by omega, rfl, [], .inl ⟨by omega, by omega, by simp⟩, cl_nil _, Own.nil _ _ _ _, Below.refl _ _⟩
  case round =>
    obtain ⟨lo, h0, hg, rfl, G, hcb, hcl, hown, hb⟩ := hrel
    obtain ⟨va, vc, rfl⟩ := own_form hown
    have HB : Hid _ := And.intro hcb (And.intro hcl (And.intro hown hb))
    have hGl := (cb_le hcb).1
    clear hcb hcl hown hb
    by_cases hle : lo ≤ 1114111
    · obtain ⟨k1, k2⟩ := cal_bd h0 hle
      have q1 := fun W => calm_p lo W
      have q2 := fun W => white_p lo W
      have hst := cb_step HB.out.1 hle
      have hcc : ∀ x, lo ≤ x → x ≤ calS lo → isWhite x = isWhite lo := fun x a b => cal_white h0 a b
      obtain ⟨hi, hhi⟩ : ∃ hi, calS lo = hi := ⟨_, rfl⟩
      rw [hhi] at k1 k2 q1 hst hcc
      clear hhi
      have HC : Hid _ := And.intro hst hcc
      clear hst hcc
      obtain ⟨g, hgk⟩ : ∃ g : Nat, (g : Int) = 1114112 - (hi + 1) := ⟨(1114112 - (hi + 1)).toNat, by omega⟩
      have HQ1 : Hid _ := And.intro q1 trivial
      clear q1
      cases hp : isWhite lo with
      | true =>
        rw [hp] at q2
        have HQ2 : Hid _ := And.intro q2 hp
        clear q2 hp
        go_wp2_with fail
        refine Calls.mono (HQ1.out.1 _) ?_
        rintro e w' ⟨rfl, hw⟩
        subst hw
        go_wp2_with fail
        refine Calls.mono (HQ2.out.1 _) ?_
        rintro e w'' ⟨rfl, hw⟩
        subst hw
        go_wp2_with (first | (at_builtin; go_loud (refine wpList_put w'' .i32 64 23 i50 z50 8 Try.underlying23 hi50 hz0 hzc hz1 hz3 (by decide) (.tmp 13) (.tmp 17) rfl rfl w.heap.size (.slice va G.length vc) G rfl HB.out.2.2.1 (lo, hi) rfl (by omega) HB.out.2.2.2.size ?_); intro v' w7 hown7 hb7 hv7; have H7 : Hid _ := And.intro hown7 hb7; clear hown7 hb7 hv7))
        go_roundg g
        case measure => omega
        case rel => exact ⟨hi + 1, by omega, by omega, rfl, G ++ [(lo, hi)], by rw [List.length_append]; exact HC.out.1.1, cl_yes HB.out.2.1 h0 k1 HC.out.2 HQ2.out.2, H7.out.1, HB.out.2.2.2.trans H7.out.2.1⟩
      | false =>
        rw [hp] at q2
        have HQ2 : Hid _ := And.intro q2 hp
        clear q2 hp
        go_wp2_with fail
        refine Calls.mono (HQ1.out.1 _) ?_
        rintro e w' ⟨rfl, hw⟩
        subst hw
        go_wp2_with fail
        refine Calls.mono (HQ2.out.1 _) ?_
        rintro e w'' ⟨rfl, hw⟩
        subst hw
        go_wp2_with fail
        go_roundg g
        case measure => omega
        case rel => exact ⟨hi + 1, by omega, by omega, rfl, G, HC.out.1.2, cl_no HB.out.2.1 h0 k1 HC.out.2 HQ2.out.2, HB.out.2.2.1, HB.out.2.2.2⟩
    · have hk : lo = 1114112 := by omega
      subst hk
      have q1 := of_p _ G wr HB.out.2.2.1.sl (by omega)
      have HQ : Hid _ := And.intro q1 trivial
      clear q1
      go_wp2_with fail
      refine Calls.mono HQ.out.1 ?_
      rintro e w2 ⟨v2, s2, rfl, hof, hown2, hl2, hb2⟩
      have H2 : Hid _ := And.intro (cl_S HB.out.2.1 hof) (And.intro (hown2.mono HB.out.2.2.2.size) (And.intro (HB.out.2.2.2.trans (hb2.mono HB.out.2.2.2.size)) (Nat.le_trans hl2 hGl)))
      clear hof hown2 hb2 hl2
      go_wp2_with fail
      go_ret
      exact ⟨_, s2, rfl, H2.out.1, H2.out.2.1, H2.out.2.2.2, H2.out.2.2.1⟩
set_option maxHeartbeats 1000000 in
theorem class_start (w : World) : Calls Try.prog 20 #[.func (.func 22) #[] #[]] w fun e w' => ClQ isStart w e w' := by
  obtain ⟨i50, z50, hi50, hz0, hzc, hz1, hz3⟩ := info_rgp
  go_enter Try.func20, Try.ntmps20
  go_wp2_with fail
  go_loopg [3, 4] 1114112 (fun g v3 v4 wr => ∃ lo : Int, 0 ≤ lo ∧ lo + g = 1114112 ∧ v4 = .int .i32 lo ∧ ClR isStart w lo v3 wr)
  case atStart => exact ⟨0, by omega, by omega, rfl, [], .inl ⟨by omega, by omega, by simp⟩, cl_nil _, Own.nil _ _ _ _, Below.refl _ _⟩
  case round =>
    obtain ⟨lo, h0, hg, rfl, G, hcb, hcl, hown, hb⟩ := hrel
    obtain ⟨va, vc, rfl⟩ := own_form hown
    have HB : Hid _ := And.intro hcb (And.intro hcl (And.intro hown hb))
    have hGl := (cb_le hcb).1
    clear hcb hcl hown hb
    by_cases hle : lo ≤ 1114111
    · obtain ⟨k1, k2⟩ := cal_bd h0 hle
      have q1 := fun W => calm_p lo W
      have q2 := fun W => start_p lo W
      have hst := cb_step HB.out.1 hle
      have hcc : ∀ x, lo ≤ x → x ≤ calS lo → isStart x = isStart lo := fun x a b => cal_start h0 a b
      obtain ⟨hi, hhi⟩ : ∃ hi, calS lo = hi := ⟨_, rfl⟩
      rw [hhi] at k1 k2 q1 hst hcc
      clear hhi
      have HC : Hid _ := And.intro hst hcc
      clear hst hcc
      obtain ⟨g, hgk⟩ : ∃ g : Nat, (g : Int) = 1114112 - (hi + 1) := ⟨(1114112 - (hi + 1)).toNat, by omega⟩
      have HQ1 : Hid _ := And.intro q1 trivial
      clear q1
      cases hp : isStart lo with
      | true =>
        rw [hp] at q2
        have HQ2 : Hid _ := And.intro q2 hp
        clear q2 hp
        go_wp2_with fail
        refine Calls.mono (HQ1.out.1 _) ?_
        rintro e w' ⟨rfl, hw⟩
        subst hw
        go_wp2_with fail
        refine Calls.mono (HQ2.out.1 _) ?_
        rintro e w'' ⟨rfl, hw⟩
        subst hw
        go_wp2_with (first | (at_builtin; go_loud (refine wpList_put w'' .i32 64 23 i50 z50 8 Try.underlying23 hi50 hz0 hzc hz1 hz3 (by decide) (.tmp 13) (.tmp 17) rfl rfl w.heap.size (.slice va G.length vc) G rfl HB.out.2.2.1 (lo, hi) rfl (by omega) HB.out.2.2.2.size ?_); intro v' w7 hown7 hb7 hv7; have H7 : Hid _ := And.intro hown7 hb7; clear hown7 hb7 hv7))
        go_roundg g
        case measure => omega
        case rel => exact ⟨hi + 1, by omega, by omega, rfl, G ++ [(lo, hi)], by rw [List.length_append]; exact HC.out.1.1, cl_yes HB.out.2.1 h0 k1 HC.out.2 HQ2.out.2, H7.out.1, HB.out.2.2.2.trans H7.out.2.1⟩
      | false =>
        rw [hp] at q2
        have HQ2 : Hid _ := And.intro q2 hp
        clear q2 hp
        go_wp2_with fail
        refine Calls.mono (HQ1.out.1 _) ?_
        rintro e w' ⟨rfl, hw⟩
        subst hw
        go_wp2_with fail
        refine Calls.mono (HQ2.out.1 _) ?_
        rintro e w'' ⟨rfl, hw⟩
        subst hw
        go_wp2_with fail
        go_roundg g
        case measure => omega
        case rel => exact ⟨hi + 1, by omega, by omega, rfl, G, HC.out.1.2, cl_no HB.out.2.1 h0 k1 HC.out.2 HQ2.out.2, HB.out.2.2.1, HB.out.2.2.2⟩
    · have hk : lo = 1114112 := by omega
      subst hk
      have q1 := of_p _ G wr HB.out.2.2.1.sl (by omega)
      have HQ : Hid _ := And.intro q1 trivial
      clear q1
      go_wp2_with fail
      refine Calls.mono HQ.out.1 ?_
      rintro e w2 ⟨v2, s2, rfl, hof, hown2, hl2, hb2⟩
      have H2 : Hid _ := And.intro (cl_S HB.out.2.1 hof) (And.intro (hown2.mono HB.out.2.2.2.size) (And.intro (HB.out.2.2.2.trans (hb2.mono HB.out.2.2.2.size)) (Nat.le_trans hl2 hGl)))
      clear hof hown2 hb2 hl2
      go_wp2_with fail
      go_ret
      exact ⟨_, s2, rfl, H2.out.1, H2.out.2.1, H2.out.2.2.2, H2.out.2.2.1⟩
set_option maxHeartbeats 1000000 in
theorem class_part (w : World) : Calls Try.prog 20 #[.func (.func 23) #[] #[]] w fun e w' => ClQ isPart w e w' := by
  obtain ⟨i50, z50, hi50, hz0, hzc, hz1, hz3⟩ := info_rgp
  go_enter Try.func20, Try.ntmps20
  go_wp2_with fail
  go_loopg [3, 4] 1114112 (fun g v3 v4 wr => ∃ lo : Int, 0 ≤ lo ∧ lo + g = 1114112 ∧ v4 = .int .i32 lo ∧ ClR isPart w lo v3 wr)
  case atStart => exact ⟨0, by omega, by omega, rfl, [], .inl ⟨by omega, by omega, by simp⟩, cl_nil _, Own.nil _ _ _ _, Below.refl _ _⟩
  case round =>
    obtain ⟨lo, h0, hg, rfl, G, hcb, hcl, hown, hb⟩ := hrel
    obtain ⟨va, vc, rfl⟩ := own_form hown
    have HB : Hid _ := And.intro hcb (And.intro hcl (And.intro hown hb))
    have hGl := (cb_le hcb).1
    clear hcb hcl hown hb
    by_cases hle : lo ≤ 1114111
    · obtain ⟨k1, k2⟩ := cal_bd h0 hle
      have q1 := fun W => calm_p lo W
      have q2 := fun W => part_p lo W
      have hst := cb_step HB.out.1 hle
      have hcc : ∀ x, lo ≤ x → x ≤ calS lo → isPart x = isPart lo := fun x a b => cal_part h0 a b
      obtain ⟨hi, hhi⟩ : ∃ hi, calS lo = hi := ⟨_, rfl⟩
      rw [hhi] at k1 k2 q1 hst hcc
      clear hhi
      have HC : Hid _ := And.intro hst hcc
      clear hst hcc
      obtain ⟨g, hgk⟩ : ∃ g : Nat, (g : Int) = 1114112 - (hi + 1) := ⟨(1114112 - (hi + 1)).toNat, by omega⟩
      have HQ1 : Hid _ := And.intro q1 trivial
      clear q1
      cases hp : isPart lo with
      | true =>
        rw [hp] at q2
        have HQ2 : Hid _ := And.intro q2 hp
        clear q2 hp
        go_wp2_with fail
        refine Calls.mono (HQ1.out.1 _) ?_
        rintro e w' ⟨rfl, hw⟩
        subst hw
        go_wp2_with fail
        refine Calls.mono (HQ2.out.1 _) ?_
        rintro e w'' ⟨rfl, hw⟩
        subst hw
        go_wp2_with (first | (at_builtin; go_loud (refine wpList_put w'' .i32 64 23 i50 z50 8 Try.underlying23 hi50 hz0 hzc hz1 hz3 (by decide) (.tmp 13) (.tmp 17) rfl rfl w.heap.size (.slice va G.length vc) G rfl HB.out.2.2.1 (lo, hi) rfl (by omega) HB.out.2.2.2.size ?_); intro v' w7 hown7 hb7 hv7; have H7 : Hid _ := And.intro hown7 hb7; clear hown7 hb7 hv7))
        go_roundg g
        case measure => omega
        case rel => exact ⟨hi + 1, by omega, by omega, rfl, G ++ [(lo, hi)], by rw [List.length_append]; exact HC.out.1.1, cl_yes HB.out.2.1 h0 k1 HC.out.2 HQ2.out.2, H7.out.1, HB.out.2.2.2.trans H7.out.2.1⟩
      | false =>
        rw [hp] at q2
        have HQ2 : Hid _ := And.intro q2 hp
        clear q2 hp
        go_wp2_with fail
        refine Calls.mono (HQ1.out.1 _) ?_
        rintro e w' ⟨rfl, hw⟩
        subst hw
        go_wp2_with fail
        refine Calls.mono (HQ2.out.1 _) ?_
        rintro e w'' ⟨rfl, hw⟩
        subst hw
        go_wp2_with fail
        go_roundg g
        case measure => omega
        case rel => exact ⟨hi + 1, by omega, by omega, rfl, G, HC.out.1.2, cl_no HB.out.2.1 h0 k1 HC.out.2 HQ2.out.2, HB.out.2.2.1, HB.out.2.2.2⟩
    · have hk : lo = 1114112 := by omega
      subst hk
      have q1 := of_p _ G wr HB.out.2.2.1.sl (by omega)
      have HQ : Hid _ := And.intro q1 trivial
      clear q1
      go_wp2_with fail
      refine Calls.mono HQ.out.1 ?_
      rintro e w2 ⟨v2, s2, rfl, hof, hown2, hl2, hb2⟩
      have H2 : Hid _ := And.intro (cl_S HB.out.2.1 hof) (And.intro (hown2.mono HB.out.2.2.2.size) (And.intro (HB.out.2.2.2.trans (hb2.mono HB.out.2.2.2.size)) (Nat.le_trans hl2 hGl)))
      clear hof hown2 hb2 hl2
      go_wp2_with fail
      go_ret
      exact ⟨_, s2, rfl, H2.out.1, H2.out.2.1, H2.out.2.2.2, H2.out.2.2.1⟩
end Go.Proofs.Ythlkbijpphdblaa
