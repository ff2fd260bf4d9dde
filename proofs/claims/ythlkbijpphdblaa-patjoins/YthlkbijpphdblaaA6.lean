/- The reader: times; what ends a class, which dash is last. -/
import Derived.Test.YthlkbijpphdblaaA5
namespace Go.Proofs.Ythlkbijpphdblaa
open Go.RowKit
set_option linter.unusedVariables false

/-- Whether no more members of a class follow. -/
def ceS (l : Bs) (k : Nat) : R Bool := (pkS l k).bind fun r _ => if r = 93 then .ok true k else if r = 45 then (pkS l (k + 1)).bind fun s _ => .ok (s == 91) k else .ok false k
/-- Whether the dash here is a class' last member. -/
def ldS (l : Bs) (k : Nat) : R Bool := (pkS l (k + 1)).bind fun r _ => if r = 93 then .ok true k else if r = 45 then (pkS l (k + 2)).bind fun s _ => .ok (s == 91) k else .ok false k
/-- Whether a range's dash stands here. -/
def dbS (l : Bs) (k : Nat) : R Bool := (pkS l k).bind fun r _ => if r = 45 then (ceS l k).bind fun b _ => if b = true then .ok false k else (ldS l k).bind fun c _ => .ok (!c) k else .ok false k
abbrev blV : Bool → Value := fun b => .bool b
theorem rd_bad {α : Type} {w w' : World} {ret : α → Value} {X : R α} {p er : Int} {m : Nat} (hx : .bad p er = X) (hw : w' = w.drewN m) : Rd w ret X (.panicked (flt p er)) w' := by
  subst hx
  exact ⟨rfl, m, hw⟩
theorem rd_ok {α : Type} {w w' : World} {ret : α → Value} {X : R α} {a : α} {k : Nat} {e : Ending} {m : Nat} (hx : .ok a k = X) (he : e = .returned (ret a)) (hw : w' = w.drewN m) : Rd w ret X e w' := by
  subst hx
  exact ⟨he, m, hw⟩
theorem dr2 {w w1 w2 : World} {m n : Nat} (h1 : w1 = w.drewN m) (h2 : w2 = w1.drewN n) : w2 = w.drewN (m + n) := by
  subst h1
  subst h2
  first | rfl | rw [World.drewN_drewN]
set_option maxHeartbeats 2000000 in
theorem ends_p {P k o : Nat} {w : World} {vb : Value} {l : Bs} (h : In P w vb l k o) : Calls Try.prog 86 #[pp P] w fun e w' => Rd w blV (ceS l k) e w' := by
  obtain ⟨X, hX⟩ : ∃ X, ceS l k = X := ⟨_, rfl⟩
  rw [hX]
  unfold ceS at hX
  have q := peek_p h
  cases hr : pkS l k with
  | bad p er =>
    rw [hr] at q hX
    have HQ : Hid _ := And.intro q hX
    clear q hr h hX
    go_enter Try.func86, Try.ntmps86
    go_wp2_with fail
    refine Calls.mono HQ.out.1 ?_
    rintro e w1 ⟨rfl, m, hw⟩
    exact ⟨rfl, rd_bad HQ.out.2 hw⟩
  | ok r k' =>
    have hlt := pk_lt hr
    rw [hr] at q hX
    rw [R.bind_ok] at hX
    have HQ : Hid _ := And.intro q hX
    have HH : Hid _ := h
    clear q hr h hX
    by_cases h1 : r = 93
    · subst h1
      go_enter Try.func86, Try.ntmps86
      go_wp2_with fail
      refine Calls.mono HQ.out.1 ?_
      rintro e w1 ⟨rfl, m, hw⟩
      have HW : Hid _ := hw
      clear hw
      go_wp2_with fail
      go_ret
      exact rd_ok HQ.out.2 rfl HW.out
    · have n1 : (r == 93) = false := by simpa using h1
      by_cases h2 : r = 45
      · subst h2
        have hX := HQ.out.2
        rw [if_neg (by decide), if_pos rfl] at hX
        go_enter Try.func86, Try.ntmps86
        go_wp2_with fail
        refine Calls.mono HQ.out.1 ?_
        rintro e w1 ⟨rfl, m, hw⟩
        have q2 := behind_p (HH.out.dr hw) hlt
        cases hr2 : pkS l (k + 1) with
        | bad p er =>
          rw [hr2] at q2 hX
          have H2 : Hid _ := And.intro q2 (And.intro hX hw)
          clear q2 hr2 hX hw
          go_wp2_with fail
          refine Calls.mono H2.out.1 ?_
          rintro e w2 ⟨rfl, m2, hw2⟩
          exact ⟨rfl, rd_bad H2.out.2.1 (dr2 H2.out.2.2 hw2)⟩
        | ok s k2 =>
          rw [hr2] at q2 hX
          have H2 : Hid _ := And.intro q2 (And.intro hX hw)
          clear q2 hr2 hX hw
          go_wp2_with fail
          refine Calls.mono H2.out.1 ?_
          rintro e w2 ⟨rfl, m2, hw2⟩
          have HW : Hid _ := hw2
          clear hw2
          go_wp2_with fail
          go_ret
          exact rd_ok H2.out.2.1 rfl (dr2 H2.out.2.2 HW.out)
      · have n2 : (r == 45) = false := by simpa using h2
        have hX := HQ.out.2
        rw [if_neg h1, if_neg h2] at hX
        have H2 : Hid _ := hX
        clear hX h1 h2
        go_enter Try.func86, Try.ntmps86
        go_wp2_with fail
        refine Calls.mono HQ.out.1 ?_
        rintro e w1 ⟨rfl, m, hw⟩
        have HW : Hid _ := hw
        clear hw
        go_wp2_with fail
        go_ret
        exact rd_ok H2.out rfl HW.out
set_option maxHeartbeats 2000000 in
theorem last_p {P k o : Nat} {w : World} {vb : Value} {l : Bs} (h : In P w vb l k o) (hk : k < l.length) : Calls Try.prog 98 #[pp P] w fun e w' => Rd w blV (ldS l k) e w' := by
  obtain ⟨X, hX⟩ : ∃ X, ldS l k = X := ⟨_, rfl⟩
  rw [hX]
  unfold ldS at hX
  have hll := h.ll
  have q := behind_p h hk
  cases hr : pkS l (k + 1) with
  | bad p er =>
    rw [hr] at q hX
    have HQ : Hid _ := And.intro q hX
    clear q hr h hX
    go_enter Try.func98, Try.ntmps98
    go_wp2_with fail
    refine Calls.mono HQ.out.1 ?_
    rintro e w1 ⟨rfl, m, hw⟩
    exact ⟨rfl, rd_bad HQ.out.2 hw⟩
  | ok r k' =>
    have hlt := pk_lt hr
    rw [hr] at q hX
    rw [R.bind_ok] at hX
    have HQ : Hid _ := And.intro q hX
    have HH : Hid _ := h
    clear q hr h hX
    by_cases h1 : r = 93
    · subst h1
      go_enter Try.func98, Try.ntmps98
      go_wp2_with fail
      refine Calls.mono HQ.out.1 ?_
      rintro e w1 ⟨rfl, m, hw⟩
      have HW : Hid _ := hw
      clear hw
      go_wp2_with fail
      go_ret
      exact rd_ok HQ.out.2 rfl HW.out
    · have n1 : (r == 93) = false := by simpa using h1
      by_cases h2 : r = 45
      · subst h2
        have hX := HQ.out.2
        rw [if_neg (by decide), if_pos rfl] at hX
        go_enter Try.func98, Try.ntmps98
        go_wp2_with fail
        refine Calls.mono HQ.out.1 ?_
        rintro e w1 ⟨rfl, m, hw⟩
        have hi := HH.out.dr hw
        have q2 := letter_p hi (k + 2) (by omega)
        have hkk : ((k + 2 : Nat) : Int) = (k : Int) + 2 := by omega
        rw [hkk] at q2
        obtain ⟨⟨c0, c1, c2⟩, f0, f1, f2⟩ := cells3 hi.ps
        clear hi
        unfold pkS at hX
        cases hr2 : letS l (k + 2) with
        | bad p er =>
          rw [hr2] at q2 hX
          have H2 : Hid _ := And.intro q2 (And.intro hX hw)
          clear q2 hr2 hX hw
          go_wp2_with fail
          refine Calls.mono H2.out.1 ?_
          rintro e w2 ⟨rfl, m2, hw2⟩
          exact ⟨rfl, rd_bad H2.out.2.1 (dr2 H2.out.2.2 hw2)⟩
        | ok s k2 =>
          rw [hr2] at q2 hX
          have H2 : Hid _ := And.intro q2 (And.intro hX hw)
          clear q2 hr2 hX hw
          go_wp2_with fail
          refine Calls.mono H2.out.1 ?_
          rintro e w2 ⟨rfl, m2, hw2⟩
          have HW : Hid _ := hw2
          clear hw2
          go_wp2_with fail
          go_ret
          exact rd_ok H2.out.2.1 rfl (dr2 H2.out.2.2 HW.out)
      · have n2 : (r == 45) = false := by simpa using h2
        have hX := HQ.out.2
        rw [if_neg h1, if_neg h2] at hX
        have H2 : Hid _ := hX
        clear hX h1 h2
        go_enter Try.func98, Try.ntmps98
        go_wp2_with fail
        refine Calls.mono HQ.out.1 ?_
        rintro e w1 ⟨rfl, m, hw⟩
        have HW : Hid _ := hw
        clear hw
        go_wp2_with fail
        go_ret
        exact rd_ok H2.out rfl HW.out
set_option maxHeartbeats 2000000 in
theorem between_p {P k o : Nat} {w : World} {vb : Value} {l : Bs} (h : In P w vb l k o) : Calls Try.prog 96 #[pp P] w fun e w' => Rd w blV (dbS l k) e w' := by
  obtain ⟨X, hX⟩ : ∃ X, dbS l k = X := ⟨_, rfl⟩
  rw [hX]
  unfold dbS at hX
  have q := peek_p h
  cases hr : pkS l k with
  | bad p er =>
    rw [hr] at q hX
    have HQ : Hid _ := And.intro q hX
    clear q hr h hX
    go_enter Try.func96, Try.ntmps96
    go_wp2_with fail
    refine Calls.mono HQ.out.1 ?_
    rintro e w1 ⟨rfl, m, hw⟩
    exact ⟨rfl, rd_bad HQ.out.2 hw⟩
  | ok r k' =>
    have hlt := pk_lt hr
    rw [hr] at q hX
    rw [R.bind_ok] at hX
    have HQ : Hid _ := And.intro q hX
    have HH : Hid _ := h
    clear q hr h hX
    by_cases h2 : r = 45
    · subst h2
      have hX := HQ.out.2
      rw [if_pos rfl] at hX
      go_enter Try.func96, Try.ntmps96
      go_wp2_with fail
      refine Calls.mono HQ.out.1 ?_
      rintro e w1 ⟨rfl, m, hw⟩
      have hi := HH.out.dr hw
      have q2 := ends_p hi
      cases hr2 : ceS l k with
      | bad p er =>
        rw [hr2] at q2 hX
        have H2 : Hid _ := And.intro q2 (And.intro hX hw)
        clear q2 hr2 hX hw hi
        go_wp2_with fail
        refine Calls.mono H2.out.1 ?_
        rintro e w2 ⟨rfl, m2, hw2⟩
        exact ⟨rfl, rd_bad H2.out.2.1 (dr2 H2.out.2.2 hw2)⟩
      | ok b k2 =>
        rw [hr2] at q2 hX
        rw [R.bind_ok] at hX
        cases b with
        | true =>
          rw [if_pos rfl] at hX
          have H2 : Hid _ := And.intro q2 (And.intro hX hw)
          clear q2 hr2 hX hw hi
          go_wp2_with fail
          refine Calls.mono H2.out.1 ?_
          rintro e w2 ⟨rfl, m2, hw2⟩
          have HW : Hid _ := hw2
          clear hw2
          go_wp2_with fail
          go_ret
          exact rd_ok H2.out.2.1 rfl (dr2 H2.out.2.2 HW.out)
        | false =>
          rw [if_neg (by decide)] at hX
          have H2 : Hid _ := And.intro q2 (And.intro hX (And.intro hw hi))
          clear q2 hr2 hX hw hi
          go_wp2_with fail
          refine Calls.mono H2.out.1 ?_
          rintro e w2 ⟨rfl, m2, hw2⟩
          have q3 := last_p (H2.out.2.2.2.dr hw2) hlt
          have hX := H2.out.2.1
          cases hr3 : ldS l k with
          | bad p er =>
            rw [hr3] at q3 hX
            have H3 : Hid _ := And.intro q3 (And.intro hX (dr2 H2.out.2.2.1 hw2))
            clear q3 hr3 hX hw2
            go_wp2_with fail
            refine Calls.mono H3.out.1 ?_
            rintro e w3 ⟨rfl, m3, hw3⟩
            exact ⟨rfl, rd_bad H3.out.2.1 (dr2 H3.out.2.2 hw3)⟩
          | ok c k3 =>
            rw [hr3] at q3 hX
            have H3 : Hid _ := And.intro q3 (And.intro hX (dr2 H2.out.2.2.1 hw2))
            clear q3 hr3 hX hw2
            go_wp2_with fail
            refine Calls.mono H3.out.1 ?_
            rintro e w3 ⟨rfl, m3, hw3⟩
            have HW : Hid _ := hw3
            clear hw3
            go_wp2_with fail
            go_ret
            exact rd_ok H3.out.2.1 rfl (dr2 H3.out.2.2 HW.out)
    · have n2 : (r == 45) = false := by simpa using h2
      have hX := HQ.out.2
      rw [if_neg h2] at hX
      have H2 : Hid _ := hX
      clear hX h2
      go_enter Try.func96, Try.ntmps96
      go_wp2_with fail
      refine Calls.mono HQ.out.1 ?_
      rintro e w1 ⟨rfl, m, hw⟩
      have HW : Hid _ := hw
      clear hw
      go_wp2_with fail
      go_ret
      exact rd_ok H2.out rfl HW.out
abbrev tmV : Int × Int × Bool → Value := fun p => .tuple #[.int .i64 p.1, .int .i64 p.2.1, .bool p.2.2]
set_option maxHeartbeats 2000000 in
theorem times_p {P k o : Nat} {w : World} {vb : Value} {l : Bs} (h : In P w vb l k o) : Calls Try.prog 60 #[pp P] w fun e w' => Mv P w vb l o tmV (timS l k) e w' := by
  obtain ⟨X, hX⟩ : ∃ X, timS l k = X := ⟨_, rfl⟩
  rw [hX]
  unfold timS at hX
  have HX : Hid _ := hX
  have HH : Hid _ := And.intro h (Fro.refl (fun j => j = P) w)
  have hll := h.ll
  clear h hX
  go_enter Try.func60, Try.ntmps60
  have q := skip_p 63 HH.out.1 (by omega)
  cases hs : skB l 63 k with
  | true =>
    have hX := HX.out
    rw [hs, if_pos rfl] at hX
    rw [hs] at q
    have HQ : Hid _ := And.intro q hX
    clear q hs hX
    go_wp2_with fail
    refine Calls.mono HQ.out.1 ?_
    rintro e w1 ⟨rfl, hi, hf⟩
    rw [if_pos rfl] at hi
    have HI : Hid _ := And.intro hi hf
    clear hi hf
    go_wp2_with fail
    go_ret3
    exact mv_ok HQ.out.2 rfl HI.out.1 (HH.out.2.trans HI.out.2)
  | false =>
  have hX := HX.out
  rw [hs, if_neg (by decide)] at hX
  clear HX
  have HX : Hid _ := hX
  rw [hs] at q
  have HQ : Hid _ := And.intro q trivial
  clear q hs hX
  go_wp2_with fail
  refine Calls.mono HQ.out.1 ?_
  rintro e w1 ⟨rfl, hi, hf⟩
  rw [if_neg (by decide)] at hi
  have Hw1 : Hid _ := And.intro hi (HH.out.2.trans hf)
  clear hi hf HQ
  have q := skip_p 42 Hw1.out.1 (by omega)
  cases hs : skB l 42 k with
  | true =>
    have hX := HX.out
    rw [hs, if_pos rfl] at hX
    rw [hs] at q
    have HQ : Hid _ := And.intro q hX
    clear q hs hX
    go_wp2_with fail
    refine Calls.mono HQ.out.1 ?_
    rintro e w2 ⟨rfl, hi, hf⟩
    rw [if_pos rfl] at hi
    have HI : Hid _ := And.intro hi hf
    clear hi hf
    go_wp2_with fail
    go_ret3
    exact mv_ok HQ.out.2 rfl HI.out.1 (Hw1.out.2.trans HI.out.2)
  | false =>
  have hX := HX.out
  rw [hs, if_neg (by decide)] at hX
  clear HX
  have HX : Hid _ := hX
  rw [hs] at q
  have HQ : Hid _ := And.intro q trivial
  clear q hs hX
  go_wp2_with fail
  refine Calls.mono HQ.out.1 ?_
  rintro e w2 ⟨rfl, hi, hf⟩
  rw [if_neg (by decide)] at hi
  have Hw2 : Hid _ := And.intro hi (Hw1.out.2.trans hf)
  clear hi hf HQ
  have q := skip_p 43 Hw2.out.1 (by omega)
  cases hs : skB l 43 k with
  | true =>
    have hX := HX.out
    rw [hs, if_pos rfl] at hX
    rw [hs] at q
    have HQ : Hid _ := And.intro q hX
    clear q hs hX
    go_wp2_with fail
    refine Calls.mono HQ.out.1 ?_
    rintro e w3 ⟨rfl, hi, hf⟩
    rw [if_pos rfl] at hi
    have HI : Hid _ := And.intro hi hf
    clear hi hf
    go_wp2_with fail
    go_ret3
    exact mv_ok HQ.out.2 rfl HI.out.1 (Hw2.out.2.trans HI.out.2)
  | false =>
  have hX := HX.out
  rw [hs, if_neg (by decide)] at hX
  clear HX
  have HX : Hid _ := hX
  rw [hs] at q
  have HQ : Hid _ := And.intro q trivial
  clear q hs hX
  go_wp2_with fail
  refine Calls.mono HQ.out.1 ?_
  rintro e w3 ⟨rfl, hi, hf⟩
  rw [if_neg (by decide)] at hi
  have Hw3 : Hid _ := And.intro hi (Hw2.out.2.trans hf)
  clear hi hf HQ
  have q := skip_p 123 Hw3.out.1 (by omega)
  cases hs : skB l 123 k with
  | true =>
    have hX := HX.out
    rw [hs, if_pos rfl] at hX
    rw [hs] at q
    have HQ : Hid _ := And.intro q hX
    clear q hs hX
    go_wp2_with fail
    refine Calls.mono HQ.out.1 ?_
    rintro e w4 ⟨rfl, hi, hf⟩
    rw [if_pos rfl] at hi
    obtain ⟨⟨c0, c1, c2⟩, f0, f1, f2⟩ := cells3 hi.ps
    have hkl := hi.kl
    have hk1 : ((k + 1 : Nat) : Int) - 1 = (k : Int) := by omega
    have qb := bounds_p (k : Int) hi
    have hX := HQ.out.2
    cases hr : bndS l (k : Int) (k + 1) with
    | bad p er =>
      rw [hr] at qb hX
      have HI : Hid _ := And.intro qb (And.intro hX hf)
      clear hi hf qb hX hr HQ
      go_wp2_with fail
      refine Calls.mono HI.out.1 ?_
      rintro e w5 ⟨rfl, hf5⟩
      exact ⟨rfl, mv_bad HI.out.2.1 ((Hw3.out.2.trans HI.out.2.2).trans hf5)⟩
    | ok b k5 =>
      rw [hr] at qb hX
      have HI : Hid _ := And.intro qb (And.intro hX hf)
      clear hi hf qb hX hr HQ
      go_wp2_with fail
      refine Calls.mono HI.out.1 ?_
      rintro e w5 ⟨rfl, hi5, hf5⟩
      have H5 : Hid _ := And.intro hi5 hf5
      clear hi5 hf5
      go_wp2_with fail
      go_ret3
      exact mv_ok HI.out.2.1 rfl H5.out.1 ((Hw3.out.2.trans HI.out.2.2).trans H5.out.2)
  | false =>
    have hX := HX.out
    rw [hs, if_neg (by decide)] at hX
    rw [hs] at q
    have HQ : Hid _ := And.intro q hX
    clear q hs hX
    go_wp2_with fail
    refine Calls.mono HQ.out.1 ?_
    rintro e w4 ⟨rfl, hi, hf⟩
    rw [if_neg (by decide)] at hi
    have HI : Hid _ := And.intro hi hf
    clear hi hf
    go_wp2_with fail
    go_ret3
    exact mv_ok HQ.out.2 rfl HI.out.1 (Hw3.out.2.trans HI.out.2)
end Go.Proofs.Ythlkbijpphdblaa
