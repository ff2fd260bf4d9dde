/- The reader: skip, sign, goesOn, enter, leave. -/
import Derived.Test.YthlkbijpphdblaaA2
namespace Go.Proofs.Ythlkbijpphdblaa
open Go.RowKit
set_option linter.unusedVariables false

/-- The reader's own cells are written. -/
theorem In.put {P k o k' o' : Nat} {w w' : World} {vb : Value} {l : Bs} (h : In P w vb l k o) (hk : k' ≤ l.length) (ho : o' ≤ 40) (hx : w'.heap[P]? = some (.cells #[vb, .int .i64 (k' : Int), .int .i64 (o' : Int)] 53 (0, 0))) (hf : Fro (fun j => j = P) w w') : In P w' vb l k' o' ∧ Fro (fun j => j = P) w w' :=
  ⟨⟨hx, h.br.fro hf, hk, h.ll, ho⟩, hf⟩
theorem set_at {P k o : Nat} {w : World} {vb : Value} {l : Bs} (h : In P w vb l k o) (k' : Nat) (x : Int) (e : x = (k' : Int)) (hk : k' ≤ l.length) : In P (w.setCell ⟨P, 1, none⟩ (.int .i64 x)) vb l k' o ∧ Fro (fun j => j = P) w (w.setCell ⟨P, 1, none⟩ (.int .i64 x)) := by
  subst e
  have hx := bset (i := 1) h.ps (.int .i64 (k' : Int))
  simp only [List.setIfInBounds_toArray, List.set_cons_succ, List.set_cons_zero] at hx
  exact h.put hk h.oo hx ((Fro.refl (fun j => j = P) w).set (.inl rfl) _)
theorem set_open {P k o : Nat} {w : World} {vb : Value} {l : Bs} (h : In P w vb l k o) (o' : Nat) (x : Int) (e : x = (o' : Int)) (ho : o' ≤ 40) : In P (w.setCell ⟨P, 2, none⟩ (.int .i64 x)) vb l k o' ∧ Fro (fun j => j = P) w (w.setCell ⟨P, 2, none⟩ (.int .i64 x)) := by
  subst e
  have hx := bset (i := 2) h.ps (.int .i64 (o' : Int))
  simp only [List.setIfInBounds_toArray, List.set_cons_succ, List.set_cons_zero] at hx
  exact h.put h.kl ho hx ((Fro.refl (fun j => j = P) w).set (.inl rfl) _)
theorem pk_lt {l : Bs} {k : Nat} {r : Int} {k' : Nat} (e : pkS l k = .ok r k') : k < l.length := by
  unfold pkS at e
  by_cases hn : ln l k = 0
  · rw [let_bad hn] at e; cases e
  · exact ln_end hn
theorem fro_dr {w : World} {O : Nat → Prop} (m : Nat) : Fro O w (w.drewN m) := Fro.below (below_drewN m)
theorem In.dr {P k o m : Nat} {w w' : World} {vb : Value} {l : Bs} (h : In P w vb l k o) (hw : w' = w.drewN m) : In P w' vb l k o := by subst hw; exact h.drewN m
theorem fro_of {w w' : World} {O : Nat → Prop} {m : Nat} (hw : w' = w.drewN m) : Fro O w w' := by subst hw; exact fro_dr m
/-- Whether a sign was gone over. -/
def SkQ (P : Nat) (w : World) (vb : Value) (l : Bs) (k o : Nat) (b : Bool) (e : Ending) (w' : World) : Prop := e = .returned (.bool b) ∧ In P w' vb l (if b = true then k + 1 else k) o ∧ Fro (fun j => j = P) w w'
set_option maxHeartbeats 1000000 in
theorem skip_p {P k o : Nat} {w : World} {vb : Value} {l : Bs} (c : Int) (h : In P w vb l k o) (hc : 0 ≤ c ∧ c < 256) : Calls Try.prog 47 #[pp P, .int .u8 c] w fun e w' => SkQ P w vb l k o (skB l c k) e w' := by
  obtain ⟨⟨c0, c1, c2⟩, f0, f1, f2⟩ := cells3 h.ps
  have q := fun W (h : In P W vb l k o) => ended_p h
  obtain ⟨a, cap, rfl, h1, h2, h3⟩ := h.br.fm
  have hk := h.kl
  have hll := h.ll
  have HH : Hid _ := h
  by_cases hlt : k < l.length
  · rcases h3 with rfl | ⟨B, rfl, hB, hcell⟩
    · simp at hlt
    have hd : decide (k = l.length) = false := by simp; omega
    have hb := hcell k hlt
    have e1 : skB l c k = (l.getD k 0 == c) := by unfold skB; simp [hlt]
    rw [e1]
    have i0 : (0 : Int) ≤ (k : Int) := by omega
    have i1 : (k : Int) < (l.length : Int) := by omega
    generalize l.getD k 0 = b at *
    have q' := fun (m : Nat) => q (w.drewN m) (HH.out.drewN m)
    rw [hd] at q'
    have HQ : Hid _ := And.intro q' trivial
    clear q q' hd e1 hcell h
    by_cases hbc : b = c
    · subst hbc
      have hne : (b != b) = false := by simp
      have hee : (b == b) = true := by simp
      rw [hee]
      go_enter Try.func47, Try.ntmps47
      go_wp2_with fail
      go_quiet ((go_at_call 37; exact Calls.quiet_of (HQ.out.1 _)))
      go_wp2_with fail
      go_ret
      have hs := set_at (HH.out.drewN nq) (k + 1) ((k : Int) + 1) (by omega) (by omega)
      exact ⟨rfl, hs.1, (fro_dr nq).trans hs.2⟩
    · have hne : (b != c) = true := by simpa using hbc
      have hee : (b == c) = false := by simpa using hbc
      rw [hee]
      go_enter Try.func47, Try.ntmps47
      go_wp2_with fail
      go_quiet ((go_at_call 37; exact Calls.quiet_of (HQ.out.1 _)))
      go_wp2_with fail
      go_ret
      exact ⟨rfl, HH.out.drewN nq, fro_dr nq⟩
  · have hd : decide (k = l.length) = true := by simp; omega
    have e1 : skB l c k = false := by unfold skB; simp [hlt]
    rw [e1]
    have q' := fun (m : Nat) => q (w.drewN m) (HH.out.drewN m)
    rw [hd] at q'
    have HQ : Hid _ := And.intro q' trivial
    clear q q' hd e1 h h3
    go_enter Try.func47, Try.ntmps47
    go_wp2_with fail
    go_quiet ((go_at_call 37; exact Calls.quiet_of (HQ.out.1 _)))
    go_wp2_with fail
    go_ret
    exact ⟨rfl, HH.out.drewN nq, fro_dr nq⟩
set_option maxHeartbeats 1000000 in
theorem sign_p {P k o : Nat} {w : World} {vb : Value} {l : Bs} (c : Int) (h : In P w vb l k o) (hc : 0 ≤ c ∧ c < 256) : Calls Try.prog 85 #[pp P, .int .u8 c] w fun e w' => Mv P w vb l o ret0 (sgnS l c k) e w' := by
  obtain ⟨⟨c0, c1, c2⟩, f0, f1, f2⟩ := cells3 h.ps
  have q := peek_p h
  have HH : Hid _ := h
  have hll := h.ll
  have qf := fun W => fail_p P (k : Int) W
  obtain ⟨hc0, hc1⟩ := hc
  have hcw : IntKind.i32.wrap c = c := by rw [IntKind.wrap_i32]; omega
  have hlt : ∀ r k', pkS l k = .ok r k' → k < l.length := fun r k' e => by
    exact pk_lt e
  unfold sgnS
  cases hr : pkS l k with
  | ok r k' =>
    have hk := hlt r k' hr
    rw [hr] at q
    have HQ : Hid _ := And.intro q qf
    clear q qf hr hlt h
    rw [R.bind_ok]
    by_cases hrc : r = c
    · subst hrc
      rw [if_pos rfl]
      have hne : (r != r) = false := by simp
      go_enter Try.func85, Try.ntmps85
      go_wp2_with fail
      refine Calls.mono HQ.out.1 ?_
      rintro e w1 ⟨rfl, m, rfl⟩
      go_wp2_with fail
      go_end0
      have hs := set_at (HH.out.drewN m) (k + 1) ((k : Int) + 1) (by omega) (by omega)
      exact ⟨rfl, hs.1, (fro_dr m).trans hs.2⟩
    · rw [if_neg hrc]
      have hne : (r != c) = true := by simpa using hrc
      go_enter Try.func85, Try.ntmps85
      go_wp2_with fail
      refine Calls.mono HQ.out.1 ?_
      rintro e w1 ⟨rfl, m, rfl⟩
      go_wp2_with fail
      refine Calls.mono (HQ.out.2 _) ?_
      rintro e w2 ⟨rfl, hw⟩
      subst hw
      exact ⟨rfl, rfl, fro_dr m⟩
  | bad p er =>
    rw [hr] at q
    have HQ : Hid _ := And.intro q trivial
    clear q qf hr hlt h
    rw [R.bind_bad]
    go_enter Try.func85, Try.ntmps85
    go_wp2_with fail
    refine Calls.mono HQ.out.1 ?_
    rintro e w1 ⟨rfl, m, rfl⟩
    exact ⟨rfl, rfl, fro_dr m⟩
set_option maxHeartbeats 1000000 in
theorem goes_p {P k o : Nat} {w : World} {vb : Value} {l : Bs} (h : In P w vb l k o) : Calls Try.prog 53 #[pp P] w fun e w' => Rd w (fun b : Bool => .bool b) (goS l k) e w' := by
  have q := ended_p h
  have q2 := fun m => peek_p (h.drewN m)
  unfold goS
  by_cases hk : k = l.length
  · rw [if_pos hk]
    rw [decide_eq_true hk] at q
    have HQ : Hid _ := And.intro q trivial
    clear q q2
    go_enter Try.func53, Try.ntmps53
    go_wp2_with fail
    refine Calls.mono HQ.out.1 ?_
    rintro e w1 ⟨rfl, m, rfl⟩
    go_wp2_with fail
    go_ret
    exact ⟨rfl, m, rfl⟩
  · rw [if_neg hk]
    rw [decide_eq_false hk] at q
    cases hr : pkS l k with
    | ok r k' =>
      rw [hr] at q2
      have HQ : Hid _ := And.intro q q2
      clear q q2 hr
      rw [R.bind_ok]
      by_cases h1 : r = 124
      · subst h1
        go_enter Try.func53, Try.ntmps53
        go_wp2_with fail
        refine Calls.mono HQ.out.1 ?_
        rintro e w1 ⟨rfl, m, rfl⟩
        go_wp2_with fail
        refine Calls.mono (HQ.out.2 m) ?_
        rintro e w2 ⟨rfl, m2, rfl⟩
        go_wp2_with fail
        go_ret
        exact ⟨rfl, m + m2, by first | rfl | rw [World.drewN_drewN]⟩
      · have n1 : (r != 124) = true := by simpa using h1
        by_cases h2 : r = 41
        · subst h2
          go_enter Try.func53, Try.ntmps53
          go_wp2_with fail
          refine Calls.mono HQ.out.1 ?_
          rintro e w1 ⟨rfl, m, rfl⟩
          go_wp2_with fail
          refine Calls.mono (HQ.out.2 m) ?_
          rintro e w2 ⟨rfl, m2, rfl⟩
          go_wp2_with fail
          go_ret
          exact ⟨rfl, m + m2, by first | rfl | rw [World.drewN_drewN]⟩
        · have n2 : (r != 41) = true := by simpa using h2
          have n3 : (r != 124 && r != 41) = true := by rw [n1, n2]; rfl
          rw [n3]
          go_enter Try.func53, Try.ntmps53
          go_wp2_with fail
          refine Calls.mono HQ.out.1 ?_
          rintro e w1 ⟨rfl, m, rfl⟩
          go_wp2_with fail
          refine Calls.mono (HQ.out.2 m) ?_
          rintro e w2 ⟨rfl, m2, rfl⟩
          go_wp2_with fail
          go_ret
          exact ⟨rfl, m + m2, by first | rfl | rw [World.drewN_drewN]⟩
    | bad p er =>
      rw [hr] at q2
      have HQ : Hid _ := And.intro q q2
      clear q q2 hr
      rw [R.bind_bad]
      go_enter Try.func53, Try.ntmps53
      go_wp2_with fail
      refine Calls.mono HQ.out.1 ?_
      rintro e w1 ⟨rfl, m, rfl⟩
      go_wp2_with fail
      refine Calls.mono (HQ.out.2 m) ?_
      rintro e w2 ⟨rfl, m2, rfl⟩
      exact ⟨rfl, rfl, m + m2, by first | rfl | rw [World.drewN_drewN]⟩
/-- A bracket more. -/
def entS (o k : Nat) : R Unit := if o = 40 then .bad k 3 else .ok () (k + 1)
set_option maxHeartbeats 1000000 in
theorem enter_p {P k o : Nat} {w : World} {vb : Value} {l : Bs} (h : In P w vb l k o) (hk : k < l.length) : Calls Try.prog 72 #[pp P] w fun e w' => Mv P w vb l (o + 1) ret0 (entS o k) e w' := by
  obtain ⟨⟨c0, c1, c2⟩, f0, f1, f2⟩ := cells3 h.ps
  have hll := h.ll
  have hoo := h.oo
  have HH : Hid _ := h
  unfold entS
  by_cases ho : o = 40
  · subst ho
    rw [if_pos rfl]
    clear h
    go_enter Try.func72, Try.ntmps72
    go_wp2
    exact ⟨rfl, rfl, Fro.refl _ _⟩
  · rw [if_neg ho]
    have hs := set_open h (o + 1) ((o : Int) + 1) (by omega) (by omega)
    have hs2 := set_at hs.1 (k + 1) ((k : Int) + 1) (by omega) (by omega)
    have HS : Hid _ := And.intro hs2.1 (hs.2.trans hs2.2)
    have hne : ((o : Int) == 40) = false := by simp; omega
    clear h hs hs2
    go_enter Try.func72, Try.ntmps72
    go_wp2_with fail
    go_end0
    exact ⟨rfl, HS.out.1, HS.out.2⟩
set_option maxHeartbeats 1000000 in
theorem leave_p {P k o : Nat} {w : World} {vb : Value} {l : Bs} (c : Int) (h : In P w vb l k (o + 1)) (hc : 0 ≤ c ∧ c < 256) : Calls Try.prog 73 #[pp P, .int .u8 c] w fun e w' => Mv P w vb l o ret0 (sgnS l c k) e w' := by
  have q := sign_p c h hc
  have hoo := h.oo
  cases hr : sgnS l c k with
  | ok r k' =>
    rw [hr] at q
    have HQ : Hid _ := And.intro q trivial
    clear q hr h
    go_enter Try.func73, Try.ntmps73
    go_wp2_with fail
    refine Calls.mono HQ.out.1 ?_
    rintro e w1 ⟨rfl, h1, hf1⟩
    obtain ⟨⟨c0, c1, c2⟩, f0, f1, f2⟩ := cells3 h1.ps
    have hs := set_open h1 o (((o + 1 : Nat) : Int) - 1) (by omega) (by omega)
    have ho : ((o + 1 : Nat) : Int) - 1 = (o : Int) := by omega
    rw [ho] at hs
    have HS : Hid _ := And.intro hs.1 (hf1.trans hs.2)
    clear h1 hf1 hs
    go_wp2_with fail
    go_end0
    exact ⟨rfl, HS.out.1, HS.out.2⟩
  | bad p er =>
    rw [hr] at q
    have HQ : Hid _ := And.intro q trivial
    clear q hr h
    go_enter Try.func73, Try.ntmps73
    go_wp2_with fail
    refine Calls.mono HQ.out.1 ?_
    rintro e w1 ⟨rfl, hf1⟩
    exact ⟨rfl, rfl, hf1⟩
end Go.Proofs.Ythlkbijpphdblaa
