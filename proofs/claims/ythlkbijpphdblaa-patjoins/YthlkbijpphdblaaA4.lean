/- The reader: numbers of times. -/
import Derived.Test.YthlkbijpphdblaaA3
namespace Go.Proofs.Ythlkbijpphdblaa
open Go.RowKit
set_option linter.unusedVariables false

theorem num_no {l : Bs} {op : Int} {f : Nat} {n : Int} {c k k' : Nat} {r : Int} (h : pkS l k = .ok r k') (hd : ¬ (48 ≤ r ∧ r ≤ 57)) : numS l op (f + 1) n c k = if c = 0 then .bad op 2 else .ok n k := by
  show (pkS l k).bind _ = _
  rw [h, R.bind_ok, if_neg hd]
theorem num_big {l : Bs} {op : Int} {f : Nat} {n : Int} {c k k' : Nat} {r : Int} (h : pkS l k = .ok r k') (hd : 48 ≤ r ∧ r ≤ 57) (hb : 4 < c + 1 ∨ 1000 < 10 * n + (r - 48)) : numS l op (f + 1) n c k = .bad op 2 := by
  show (pkS l k).bind _ = _
  rw [h, R.bind_ok, if_pos hd, if_pos hb]
theorem num_on {l : Bs} {op : Int} {f : Nat} {n : Int} {c k k' : Nat} {r : Int} (h : pkS l k = .ok r k') (hd : 48 ≤ r ∧ r ≤ 57) (hb : ¬ (4 < c + 1 ∨ 1000 < 10 * n + (r - 48))) : numS l op (f + 1) n c k = numS l op f (10 * n + (r - 48)) (c + 1) (k + 1) := by
  show (pkS l k).bind _ = _
  rw [h, R.bind_ok, if_pos hd, if_neg hb]
theorem num_bad {l : Bs} {op : Int} {f : Nat} {n : Int} {c k : Nat} {p er : Int} (h : pkS l k = .bad p er) : numS l op (f + 1) n c k = .bad p er := by
  show (pkS l k).bind _ = _
  rw [h, R.bind_bad]
theorem mv_bad {α : Type} {P : Nat} {w w' : World} {vb : Value} {l : Bs} {o : Nat} {ret : α → Value} {X : R α} {p er : Int} (hx : .bad p er = X) (hf : Fro (fun j => j = P) w w') : Mv P w vb l o ret X (.panicked (flt p er)) w' := by
  subst hx
  exact ⟨rfl, hf⟩
theorem mv_ok {α : Type} {P : Nat} {w w' : World} {vb : Value} {l : Bs} {o : Nat} {ret : α → Value} {X : R α} {a : α} {k : Nat} {e : Ending} (hx : .ok a k = X) (he : e = .returned (ret a)) (hi : In P w' vb l k o) (hf : Fro (fun j => j = P) w w') : Mv P w vb l o ret X e w' := by
  subst hx
  exact ⟨he, hi, hf⟩
abbrev inV : Int → Value := fun n => .int .i64 n
/-- Where a number's reading stands. -/
def NmR (P : Nat) (w : World) (vb : Value) (l : Bs) (o : Nat) (op : Int) (X : R Int) (g : Nat) (v5 v6 v7 : Value) (wr : World) : Prop := ∃ (n : Int) (c k k' : Nat) (r : Int), v5 = .int .i64 n ∧ v6 = .int .i64 (c : Int) ∧ v7 = .int .i32 r ∧ 0 ≤ n ∧ n ≤ 1000 ∧ c ≤ 4 ∧ c + g = 6 ∧ pkS l k = .ok r k' ∧ numS l op g n c k = X ∧ In P wr vb l k o ∧ Fro (fun j => j = P) w wr
set_option maxHeartbeats 2000000 in
theorem number_p {P k o : Nat} {w : World} {vb : Value} {l : Bs} (op : Int) (h : In P w vb l k o) : Calls Try.prog 90 #[pp P, .int .i64 op] w fun e w' => Mv P w vb l o inV (numS l op 6 0 0 k) e w' := by
  have q := peek_p h
  have HH : Hid _ := And.intro h (fun W => fail_p P op W)
  obtain ⟨X, hX⟩ : ∃ X, numS l op 6 0 0 k = X := ⟨_, rfl⟩
  rw [hX]
  cases hr : pkS l k with
  | bad p er =>
    rw [num_bad hr] at hX
    subst hX
    rw [hr] at q
    have HQ : Hid _ := And.intro q trivial
    clear q hr h
    go_enter Try.func90, Try.ntmps90
    go_wp2_with fail
    refine Calls.mono HQ.out.1 ?_
    rintro e w1 ⟨rfl, m, rfl⟩
    exact ⟨rfl, rfl, fro_dr m⟩
  | ok r k' =>
    rw [hr] at q
    have HQ : Hid _ := And.intro q (And.intro hX hr)
    clear q hr h hX
    go_enter Try.func90, Try.ntmps90
    go_wp2_with fail
    refine Calls.mono HQ.out.1 ?_
    rintro e w1 ⟨rfl, m, rfl⟩
    go_wp2_with fail
    go_loopg [5, 6, 7] 6 (fun g v5 v6 v7 wr => NmR P w vb l o op X g v5 v6 v7 wr)
    case atStart => exact ⟨0, 0, k, k', r, rfl, rfl, rfl, by omega, by omega, by omega, by omega, HQ.out.2.2, HQ.out.2.1, HH.out.1.drewN m, fro_dr m⟩
    case round =>
      obtain ⟨n, c, j, j', s, rfl, rfl, rfl, n0, n1, hc4, hcg, hpk, hX, hin, hf⟩ := hrel
      obtain ⟨g, rfl⟩ : ∃ g, gk = g + 1 := ⟨gk - 1, by omega⟩
      obtain ⟨⟨c0, c1, c2⟩, f0, f1, f2⟩ := cells3 hin.ps
      have hlt := pk_lt hpk
      have hll := hin.ll
      have HI : Hid _ := And.intro hin (And.intro hf (And.intro hpk hX))
      clear HQ hin hf hpk hX
      by_cases hd : 48 ≤ s ∧ s ≤ 57
      · obtain ⟨d0, d1⟩ := hd
        have e1 : IntKind.i64.wrap (s - 48) = s - 48 := by rw [IntKind.wrap_i64]; omega
        by_cases hbig : 4 < c + 1 ∨ 1000 < 10 * n + (s - 48)
        · have hx := HI.out.2.2.2
          rw [num_big HI.out.2.2.1 ⟨d0, d1⟩ hbig] at hx
          by_cases hb4 : 4 < c + 1
          · have b4 : (4 : Int) < (c : Int) + 1 := by omega
            clear hbig
            go_wp2_with fail
            refine Calls.mono (HH.out.2 _) ?_
            rintro e w2 ⟨rfl, hw⟩
            subst hw
            exact ⟨rfl, mv_bad hx HI.out.2.1⟩
          · have b4 : ¬ (4 : Int) < (c : Int) + 1 := by omega
            have b5 : 1000 < 10 * n + (s - 48) := by omega
            clear hbig
            go_wp2_with fail
            refine Calls.mono (HH.out.2 _) ?_
            rintro e w2 ⟨rfl, hw⟩
            subst hw
            exact ⟨rfl, mv_bad hx HI.out.2.1⟩
        · have hx := HI.out.2.2.2
          rw [num_on HI.out.2.2.1 ⟨d0, d1⟩ hbig] at hx
          have b4 : ¬ (4 : Int) < (c : Int) + 1 := by omega
          have b5 : ¬ 1000 < 10 * n + (s - 48) := by omega
          have hs := set_at HI.out.1 (j + 1) ((j : Int) + 1) (by omega) (by omega)
          have q := peek_p hs.1
          have hfr := HI.out.2.1.trans hs.2
          cases hr2 : pkS l (j + 1) with
          | bad p er =>
            rw [hr2] at q
            obtain ⟨g', rfl⟩ : ∃ g', g = g' + 1 := ⟨g - 1, by omega⟩
            rw [num_bad hr2] at hx
            have HQ : Hid _ := And.intro q (And.intro hx hfr)
            clear q hx hs hfr hr2 hbig
            go_wp2_with fail
            refine Calls.mono HQ.out.1 ?_
            rintro e w2 ⟨rfl, m2, rfl⟩
            exact ⟨rfl, mv_bad HQ.out.2.1 (HQ.out.2.2.trans (fro_dr m2))⟩
          | ok s2 k2 =>
            rw [hr2] at q
            have HQ : Hid _ := And.intro q (And.intro hx (And.intro hfr (And.intro hr2 hs.1)))
            clear q hx hs hfr hr2 hbig
            go_wp2_with fail
            refine Calls.mono HQ.out.1 ?_
            rintro e w2 ⟨rfl, m2, rfl⟩
            go_wp2_with fail
            go_roundg g
            case measure => omega
            case rel => exact ⟨10 * n + (s - 48), c + 1, j + 1, k2, s2, by go_num, by go_num, rfl, by omega, by omega, by omega, by omega, HQ.out.2.2.2.1, HQ.out.2.1, HQ.out.2.2.2.2.drewN m2, HQ.out.2.2.1.trans (fro_dr m2)⟩
      · have hx := HI.out.2.2.2
        rw [num_no HI.out.2.2.1 hd] at hx
        by_cases hc0 : c = 0
        · subst hc0
          rw [if_pos rfl] at hx
          by_cases d0 : 48 ≤ s
          · have d1 : ¬ s ≤ 57 := fun q => hd ⟨d0, q⟩
            clear hd
            go_wp2_with fail
            refine Calls.mono (HH.out.2 _) ?_
            rintro e w2 ⟨rfl, hw⟩
            subst hw
            exact ⟨rfl, mv_bad hx HI.out.2.1⟩
          · clear hd
            go_wp2_with fail
            refine Calls.mono (HH.out.2 _) ?_
            rintro e w2 ⟨rfl, hw⟩
            subst hw
            exact ⟨rfl, mv_bad hx HI.out.2.1⟩
        · rw [if_neg hc0] at hx
          have hcz : ((c : Int) == 0) = false := by simp; omega
          by_cases d0 : 48 ≤ s
          · have d1 : ¬ s ≤ 57 := fun q => hd ⟨d0, q⟩
            clear hd
            go_wp2_with fail
            go_ret
            exact mv_ok hx rfl HI.out.1 HI.out.2.1
          · clear hd
            go_wp2_with fail
            go_ret
            exact mv_ok hx rfl HI.out.1 HI.out.2.1
end Go.Proofs.Ythlkbijpphdblaa
