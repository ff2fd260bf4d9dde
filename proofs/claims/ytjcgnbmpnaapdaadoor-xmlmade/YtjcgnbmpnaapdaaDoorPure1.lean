/- Contracts of the scanner's smallest steps: fail, many, ended, letter, peek, take. -/
import Derived.Test.YtjcgnbmpnaapdaaDoorFrame
import Derived.Deep.LoopGhost
import Derived.Lib.OthersKept
import Derived.Deep.RegionLaw
import Derived.Deep.AppendLies
namespace Go.Proofs.YtjcgnbmpnaapdaaDoor
open Go.RowKit
set_option linter.unusedVariables false

abbrev pp (P : Nat) : Value := .pointer (some ⟨P, 0, none⟩)

theorem fail_any (P : Nat) (at0 : Int) (w : World) : Calls Tryd.prog 47 #[pp P, .int .i64 at0] w fun e w' => e = .panicked (flt at0 2) ∧ w' = w := by
  go_enter Tryd.func47, Tryd.ntmps47
  go_wp2
  exact ⟨rfl, rfl, rfl⟩
theorem many_any (P : Nat) (at0 : Int) (w : World) : Calls Tryd.prog 35 #[pp P, .int .i64 at0] w fun e w' => e = .panicked (flt at0 3) ∧ w' = w := by
  go_enter Tryd.func35, Tryd.ntmps35
  go_wp2
  exact ⟨rfl, rfl, rfl⟩

theorem ended_any (P : Nat) (v : PV) (l : Bs) (w : World) (h : PS w P v) (hb : BR w v.b l) : Calls Tryd.prog 57 #[pp P] w fun e w' => e = .returned (.bool (v.k == (l.length : Int))) ∧ ∃ m, w' = w.drewN m := by
  obtain ⟨c0, c1, _⟩ := h.rd
  rcases hb.form with ⟨hv, rfl⟩ | ⟨g, cap, hv, _⟩
  all_goals
    rw [hv] at c0
    go_enter Tryd.func57, Tryd.ntmps57
    go_wp2
    go_quiet (fail)
    go_wp2
    go_ret
    exact ⟨rfl, _, rfl⟩

theorem ln_le (l : Bs) (k : Nat) (hk : k ≤ l.length) : k + ln l k ≤ l.length := by
  have := dec_bd (l.drop k)
  unfold ln
  simp at this
  omega
theorem dec2_of (l : Bs) (k : Nat) : (dec (l.drop k)).2 = (ln l k : Int) := by
  have := dec_bd (l.drop k)
  unfold ln
  omega

theorem okl_lt {l : Bs} {k : Nat} (h : okl l k = true) : k < l.length := by
  rcases Nat.lt_or_ge k l.length with hk | hk
  · exact hk
  · exfalso
    unfold okl lt at h
    rw [List.drop_eq_nil_of_le hk] at h
    revert h
    decide
theorem decode_p (g k : Nat) (l : Bs) (cap : Nat) (w : World) (hc : l.length ≤ cap) (hm : cap ≤ maxLen) (hb : Bts w (some ⟨g, 0, none⟩) l) :
    Calls Tryd.prog 78 #[.slice (some ⟨g, k, none⟩) (l.length - k) (cap - k)] w fun e w' => e = .returned (.tuple #[.int .i32 (lt l k), .int .i64 (ln l k)]) ∧ w' = w := by
  have e2 := dec2_of l k
  unfold lt
  rw [← e2]
  exact decode_at0 g k l _ cap _ rfl hc hm hb
theorem decode_q (g k : Nat) (l : Bs) (cap : Nat) (w : World) (hc : l.length ≤ cap) (hm : cap ≤ maxLen) (hb : Bts w (some ⟨g, 0, none⟩) l) (hk : k ≤ l.length) :
    Calls Tryd.prog 78 #[.slice (if cap = k then some ⟨g, 0, none⟩ else some ⟨g, k, none⟩) (l.length - k) (cap - k)] w fun e w' => e = .returned (.tuple #[.int .i32 (lt l k), .int .i64 (ln l k)]) ∧ w' = w := by
  have e2 := dec2_of l k
  unfold lt
  rw [← e2]
  by_cases hck : cap = k
  · rw [if_pos hck]
    have : l.drop k = [] := List.drop_eq_nil_of_le (by omega)
    rw [this]
    have e3 : l.length - k = 0 := by omega
    rw [e3]
    exact dec_empty _ _ _
  · rw [if_neg hck]
    exact decode_at0 g k l _ cap _ rfl hc hm hb

set_option maxHeartbeats 400000 in
theorem letter_any (P k : Nat) (v : PV) (l : Bs) (w : World) (h : PS w P v) (hb : BR w v.b l) (hk : v.k = k) (hkl : k ≤ l.length) (hok : okl l k = true) :
    Calls Tryd.prog 61 #[pp P] w fun e w' => e = .returned (.tuple #[.int .i32 (lt l k), .int .i64 (ln l k)]) ∧ ∃ m, w' = w.drewN m := by
  obtain ⟨c0, c1, _⟩ := h.rd
  rw [hk] at c1
  have hlt := okl_lt hok
  unfold okl at hok
  rcases hb.form with ⟨hv, rfl⟩ | ⟨g, cap, hv, hc, hm, hbt⟩
  · simp at hlt
  · rw [hv] at c0
    have hm' := hm
    unfold maxLen at hm'
    have hck : ¬ cap = k := by omega
    go_enter Tryd.func61, Tryd.ntmps61
    go_wp2
    go_quiet ((go_at_call 78; exact Calls.quiet_of_same (decode_p g k l cap _ hc hm hbt)))
    go_wp2_with (go_at_call 79; refine (char_any _ _).mono ?_; rintro e w' ⟨rfl, rfl⟩)
    go_ret2
    exact ⟨rfl, _, rfl⟩
set_option maxHeartbeats 400000 in
theorem letter_bad (P k : Nat) (v : PV) (l : Bs) (w : World) (h : PS w P v) (hb : BR w v.b l) (hk : v.k = k) (hkl : k ≤ l.length) (hok : okl l k = false) :
    Calls Tryd.prog 61 #[pp P] w fun e w' => e = .panicked (flt k 2) ∧ ∃ m, w' = w.drewN m := by
  obtain ⟨c0, c1, _⟩ := h.rd
  rw [hk] at c1
  unfold okl at hok
  rcases hb.form with ⟨hv, rfl⟩ | ⟨g, cap, hv, hc, hm, hbt⟩
  · rw [hv] at c0
    simp at hkl
    subst hkl
    go_enter Tryd.func61, Tryd.ntmps61
    go_wp2
    go_quiet ((go_at_call 78; exact Calls.quiet_of_same (dec_empty _ _ _)))
    go_wp2_with (first | (go_at_call 79; refine (char_any _ _).mono ?_; rintro e w' ⟨rfl, rfl⟩) | (go_at_call 47; refine (fail_any _ _ _).mono ?_; rintro e w' ⟨rfl, rfl⟩))
    exact ⟨rfl, rfl, _, rfl⟩
  · rw [hv] at c0
    have hm' := hm
    unfold maxLen at hm'
    go_enter Tryd.func61, Tryd.ntmps61
    go_wp2
    go_quiet ((go_at_call 78; exact Calls.quiet_of_same (decode_q g k l cap _ hc hm hbt hkl)))
    go_wp2_with (first | (go_at_call 79; refine (char_any _ _).mono ?_; rintro e w' ⟨rfl, rfl⟩) | (go_at_call 47; refine (fail_any _ _ _).mono ?_; rintro e w' ⟨rfl, rfl⟩))
    all_goals exact ⟨rfl, rfl, _, rfl⟩

theorem peek_any (P k : Nat) (v : PV) (l : Bs) (w : World) (h : PS w P v) (hb : BR w v.b l) (hk : v.k = k) (hkl : k ≤ l.length) (hok : okl l k = true) :
    Calls Tryd.prog 40 #[pp P] w fun e w' => e = .returned (.int .i32 (lt l k)) ∧ ∃ m, w' = w.drewN m := by
  go_enter Tryd.func40, Tryd.ntmps40
  go_wp2_with (go_at_call 61; refine (letter_any P k v l _ h hb hk hkl hok).mono ?_; rintro e w' ⟨rfl, m, rfl⟩)
  go_ret
  exact ⟨rfl, _, rfl⟩
theorem peek_bad (P k : Nat) (v : PV) (l : Bs) (w : World) (h : PS w P v) (hb : BR w v.b l) (hk : v.k = k) (hkl : k ≤ l.length) (hok : okl l k = false) :
    Calls Tryd.prog 40 #[pp P] w fun e w' => e = .panicked (flt k 2) ∧ ∃ m, w' = w.drewN m := by
  go_enter Tryd.func40, Tryd.ntmps40
  go_wp2_with (go_at_call 61; refine (letter_bad P k v l _ h hb hk hkl hok).mono ?_; rintro e w' ⟨rfl, m, rfl⟩)
  exact ⟨rfl, rfl, _, rfl⟩
theorem take_any (P k : Nat) (v : PV) (l : Bs) (w : World) (h : PS w P v) (hb : BR w v.b l) (hk : v.k = k) (hkl : k ≤ l.length) (hl : l.length ≤ 65536) (hok : okl l k = true) :
    Calls Tryd.prog 41 #[pp P] w fun e w' => e = .returned (.int .i32 (lt l k)) ∧ Mv P w w' { v with k := (k + ln l k : Nat) } := by
  obtain ⟨c0, c1, f1⟩ := h.rd
  rw [hk] at c1
  have hle := ln_le l k hkl
  go_enter Tryd.func41, Tryd.ntmps41
  go_wp2_with (go_at_call 61; refine (letter_any P k v l _ h hb hk hkl hok).mono ?_; rintro e w' ⟨rfl, m, rfl⟩)
  go_ret
  exact ⟨rfl, by have := ((Mv.refl h).drewN m).set_k ((k + ln l k : Nat) : Int); simpa using this⟩
theorem take_bad (P k : Nat) (v : PV) (l : Bs) (w : World) (h : PS w P v) (hb : BR w v.b l) (hk : v.k = k) (hkl : k ≤ l.length) (hok : okl l k = false) :
    Calls Tryd.prog 41 #[pp P] w fun e w' => e = .panicked (flt k 2) ∧ Mv P w w' v := by
  go_enter Tryd.func41, Tryd.ntmps41
  go_wp2_with (go_at_call 61; refine (letter_bad P k v l _ h hb hk hkl hok).mono ?_; rintro e w' ⟨rfl, m, rfl⟩)
  exact ⟨rfl, rfl, (Mv.refl h).drewN m⟩
end Go.Proofs.YtjcgnbmpnaapdaaDoor
namespace Go.Proofs.YtjcgnbmpnaapdaaDoor
open Go.RowKit
set_option linter.unusedVariables false

theorem take_s {P k : Nat} {v : PV} {l : Bs} {w : World} (h : In P w v l k) : Calls Tryd.prog 41 #[pp P] w (Scan P w v l (.int .i32) (takeS l k)) := by
  cases hok : okl l k
  · rw [takeS, hok]
    refine (take_bad P k v l w h.ps h.br h.ke h.kl hok).mono ?_
    rintro e w' ⟨rfl, hm⟩
    exact ⟨rfl, hm.g, v.k, hm.p⟩
  · rw [takeS, if_pos hok]
    refine (take_any P k v l w h.ps h.br h.ke h.kl h.ll hok).mono ?_
    rintro e w' ⟨rfl, hm⟩
    exact ⟨rfl, hm.g, h.mv hm (ln_le l k h.kl)⟩
theorem take_t {P k : Nat} {v : PV} {l : Bs} {w : World} (h : In P w v l k) (hok : okl l k = true) :
    Calls Tryd.prog 41 #[pp P] w fun e w' => e = .returned (.int .i32 (lt l k)) ∧ w.grownBy w' (some P) ∧ In P w' { v with k := ((k + ln l k : Nat) : Int) } l (k + ln l k) :=
  scan_ok (take_s h) (by rw [takeS, if_pos hok])
theorem peek_t {P k : Nat} {v : PV} {l : Bs} {w : World} (h : In P w v l k) (hok : okl l k = true) :
    Calls Tryd.prog 40 #[pp P] w fun e w' => e = .returned (.int .i32 (lt l k)) ∧ ∃ m, w' = w.drewN m := peek_any P k v l w h.ps h.br h.ke h.kl hok
theorem peek_f {P k : Nat} {v : PV} {l : Bs} {w : World} (h : In P w v l k) (hok : okl l k = false) :
    Calls Tryd.prog 40 #[pp P] w fun e w' => e = .panicked (flt k 2) ∧ ∃ m, w' = w.drewN m := peek_bad P k v l w h.ps h.br h.ke h.kl hok
theorem ended_t {P k : Nat} {v : PV} {l : Bs} {w : World} (h : In P w v l k) :
    Calls Tryd.prog 57 #[pp P] w fun e w' => e = .returned (.bool (k == l.length)) ∧ ∃ m, w' = w.drewN m := by
  have := ended_any P v l w h.ps h.br
  rw [h.ke] at this
  have e : ((k : Int) == (l.length : Int)) = (k == l.length) := by rw [Bool.eq_iff_iff]; simp; omega
  rw [e] at this
  exact this
theorem gd {P : Nat} {w : World} (m : Nat) : w.grownBy (w.drewN m) (some P) := grownBy_drewN _ _ _

theorem sign_s {P k : Nat} {v : PV} {l : Bs} {w : World} (r : Int) (h : In P w v l k) : Calls Tryd.prog 56 #[pp P, .int .i32 r] w (Scan P w v l ret0 (signS l r k)) := by
  have c1 := h.rd
  cases hok : okl l k
  · rw [signS, if_neg (by rw [hok]; simp)]
    go_enter Tryd.func56, Tryd.ntmps56
    go_wp2_with (go_at_call 40; refine (peek_f h hok).mono ?_; rintro e w' ⟨rfl, m, rfl⟩)
    exact ⟨rfl, rfl, gd m, v.k, h.ps⟩
  · by_cases hr : lt l k = r
    · rw [signS, if_pos ⟨hok, hr⟩]
      go_enter Tryd.func56, Tryd.ntmps56
      go_wp2_with (first | (go_at_call 40; refine (peek_t h hok).mono ?_; rintro e w' ⟨rfl, m, rfl⟩) | (go_at_call 41; refine (take_t (h.drewN _) hok).mono ?_; rintro e w' ⟨rfl, hg, hi⟩))
      go_end0
      exact ⟨rfl, grownBy_trans (gd _) hg, hi⟩
    · rw [signS, if_neg (by rintro ⟨_, h⟩; exact hr h)]
      go_enter Tryd.func56, Tryd.ntmps56
      go_wp2_with (first | (go_at_call 40; refine (peek_t h hok).mono ?_; rintro e w' ⟨rfl, m, rfl⟩) | (go_at_call 47; refine (fail_any _ _ _).mono ?_; rintro e w' ⟨rfl, rfl⟩))
      exact ⟨rfl, rfl, gd _, v.k, h.ps⟩
end Go.Proofs.YtjcgnbmpnaapdaaDoor
namespace Go.Proofs.YtjcgnbmpnaapdaaDoor
open Go.RowKit
set_option linter.unusedVariables false

theorem fin_zero {r n : Int} (h : (fin r n).2 = 0) (hn : n ≠ 0) : (fin r n).1 = -1 := by
  unfold fin at *
  split at h
  · simp at h; omega
  · rename_i h1; rw [if_neg h1]
def Zr (p : Int × Int) : Prop := p.2 = 0 → p.1 = -1
theorem dec_zr (l : Bs) : Zr (dec l) := by
  unfold dec dec2 dec3 dec4
  repeat' split
  all_goals (first | exact fun _ => rfl | exact fun h => fin_zero h (by decide) | (intro h; simp at h))
theorem dec_zero {l : Bs} (h : (dec l).2 = 0) : (dec l).1 = -1 := dec_zr l h
theorem own_iter {w : World} {base : Nat} {e : TypeId} {size it pos : Nat} {s : ByteArray} {v : Value} {n : Nat} {xs : List Value} (h : w.ownsRow base e size v n xs) (hk : w.heap[it]? = some (.stringIter s pos)) (pos' : Nat) : (w.iterAt it s pos').ownsRow base e size v n xs := by
  obtain ⟨h1, h2⟩ := h
  refine ⟨h1, ?_⟩
  rcases h2 with h2 | ⟨g, cap, cur, a, b, c, d⟩
  · exact .inl h2
  · refine .inr ⟨g, cap, cur, a, b, ?_, d⟩
    rw [Lib.iterAt_other _ _ _ _ _ ?_]
    · exact c
    · rintro rfl
      rw [hk] at c
      cases c
theorem takeS_f {l : Bs} {k : Nat} (h : okl l k = false) : takeS l k = .bad k 2 := by rw [takeS, if_neg (by rw [h]; simp)]
theorem takeS_t {l : Bs} {k : Nat} (h : okl l k = true) : takeS l k = .ok (lt l k) (k + ln l k) := by rw [takeS, if_pos h]
theorem peekS_f {l : Bs} {k : Nat} (h : okl l k = false) : peekS l k = .bad k 2 := by rw [peekS, if_neg (by rw [h]; simp)]
theorem peekS_t {l : Bs} {k : Nat} (h : okl l k = true) : peekS l k = .ok (lt l k) k := by rw [peekS, if_pos h]
theorem take_f {P k : Nat} {v : PV} {l : Bs} {w : World} (h : In P w v l k) (hok : okl l k = false) :
    Calls Tryd.prog 41 #[pp P] w fun e w' => e = .panicked (flt k 2) ∧ w.grownBy w' (some P) ∧ ∃ k : Int, PS w' P { v with k := k } := scan_bad (take_s h) (takeS_f hok)

set_option maxHeartbeats 400000 in
theorem quote_s {P k : Nat} {v : PV} {l : Bs} {w : World} (h : In P w v l k) : Calls Tryd.prog 71 #[pp P] w (Scan P w v l (.int .i32) (quoteS l k)) := by
  have c1 := h.rd
  cases hok : okl l k
  · rw [quoteS, if_neg (by rw [hok]; simp)]
    go_enter Tryd.func71, Tryd.ntmps71
    go_wp2_with (go_at_call 40; refine (peek_f h hok).mono ?_; rintro e w' ⟨rfl, m, rfl⟩)
    exact ⟨rfl, rfl, gd m, v.k, h.ps⟩
  · by_cases hr : lt l k = 34 ∨ lt l k = 39
    · rw [quoteS, if_pos ⟨hok, hr⟩]
      rcases hr with hr | hr
      all_goals
        go_enter Tryd.func71, Tryd.ntmps71
        go_wp2_with (first | (go_at_call 40; refine (peek_t h hok).mono ?_; rintro e w' ⟨rfl, m, rfl⟩) | (go_at_call 41; refine (take_t (h.drewN _) hok).mono ?_; rintro e w' ⟨rfl, hg, hi⟩))
        go_ret
        exact ⟨by rw [hr]; rfl, grownBy_trans (gd _) hg, hi⟩
    · rw [quoteS, if_neg (by rintro ⟨_, h⟩; exact hr h)]
      have h1 : (lt l k != 34) = true := by simp; exact fun e => hr (.inl e)
      have h2 : (lt l k != 39) = true := by simp; exact fun e => hr (.inr e)
      clear hr
      go_enter Tryd.func71, Tryd.ntmps71
      go_wp2_with (first | (go_at_call 40; refine (peek_t h hok).mono ?_; rintro e w' ⟨rfl, m, rfl⟩) | (go_at_call 47; refine (fail_any _ _ _).mono ?_; rintro e w' ⟨rfl, rfl⟩))
      exact ⟨rfl, rfl, gd _, v.k, h.ps⟩

theorem In.form {P k : Nat} {w : World} {v : PV} {l : Bs} (h : In P w v l k) (hk : k < l.length) :
    ∃ g cap, w.cell? ⟨P, 0, none⟩ = some (.slice (some ⟨g, 0, none⟩) l.length cap) ∧ l.length ≤ cap ∧ cap ≤ maxLen ∧ Bts w (some ⟨g, 0, none⟩) l ∧ w.cell? ⟨g, k, none⟩ = some (.int .u8 (l.getD k 0)) := by
  rcases h.br.form with ⟨hv, rfl⟩ | ⟨g, cap, hv, hc, hm, hbt⟩
  · simp at hk
  · refine ⟨g, cap, by rw [h.ps.rd.1, hv], hc, hm, hbt, ?_⟩
    rcases hbt.2 with rfl | ⟨b, o, he, hcell⟩
    · simp at hk
    · simp at he
      obtain ⟨rfl, rfl⟩ := he
      have := hcell k hk
      rw [Nat.zero_add] at this
      exact this

theorem bind_ok {α β : Type} (a : α) (k : Nat) (f : α → Nat → R β) : (R.ok a k).bind f = f a k := rfl
theorem bind_bad {α β : Type} (p e : Int) (f : α → Nat → R β) : (R.bad p e : R α).bind f = .bad p e := rfl

set_option maxHeartbeats 800000 in
theorem line_s {P k : Nat} {v : PV} {l : Bs} {w : World} (h : In P w v l k) : Calls Tryd.prog 48 #[pp P] w (Scan P w v l (.int .i32) (lineS l k)) := by
  cases hok : okl l k
  · rw [lineS, takeS_f hok, bind_bad]
    go_enter Tryd.func48, Tryd.ntmps48
    go_wp2_with (go_at_call 41; refine (take_f h hok).mono ?_; rintro e w' ⟨rfl, hg, kk, hp⟩)
    exact ⟨rfl, rfl, hg, kk, hp⟩
  · have hle := ln_le l k h.kl
    have hll := h.ll
    rw [lineS, takeS_t hok, bind_ok]
    by_cases h13 : lt l k = 13
    · rw [if_pos h13]
      by_cases hend : k + ln l k = l.length
      · rw [if_neg (by omega)]
        have hb : (k + ln l k == l.length) = true := by simp [hend]
        have HE : Hid (k + ln l k = l.length) := hend
        clear hend
        go_enter Tryd.func48, Tryd.ntmps48
        go_wp2_with (first | (go_at_call 41; refine (take_t h hok).mono ?_; rintro e w' ⟨rfl, hg, hi⟩))
        go_quiet ((go_at_call 57; exact Calls.quiet_of (ended_t (hi.drewN _))))
        go_wp2
        go_ret
        exact ⟨rfl, grownBy_trans hg (gd _), hi.drewN _⟩
      · have hlt : k + ln l k < l.length := by omega
        have hb : (k + ln l k == l.length) = false := by simp [hend]
        by_cases h10 : l.getD (k + ln l k) 0 = 10
        · rw [if_pos ⟨hlt, h10⟩]
          have H10 : Hid (l.getD (k + ln l k) 0 = 10) := h10
          clear h10
          go_enter Tryd.func48, Tryd.ntmps48
          go_wp2_with (first | (go_at_call 41; refine (take_t h hok).mono ?_; rintro e w' ⟨rfl, hg, hi⟩))
          obtain ⟨g, cap, c0, hc, hm, hbt, hcell⟩ := hi.form hlt
          rw [H10.out] at hcell
          have c1 := hi.rd
          have f1 := hi.ps.rd.2.2
          unfold maxLen at hm
          go_quiet ((go_at_call 57; exact Calls.quiet_of (ended_t (hi.drewN _))))
          go_wp2
          go_ret
          have hm1 : Mv P w' _ _ := ((Mv.refl hi.ps).drewN nq).set_k ((k + ln l k + 1 : Nat) : Int)
          have hi2 := hi.mv hm1 (by omega)
          exact ⟨rfl, grownBy_trans hg hm1.g, hi2⟩
        · rw [if_neg (by rintro ⟨_, h⟩; exact h10 h)]
          generalize hx : l.getD (k + ln l k) 0 = x at h10
          have HX : Hid (l.getD (k + ln l k) 0 = x) := hx
          have h10b : (x == 10) = false := by simp [h10]
          clear hx
          go_enter Tryd.func48, Tryd.ntmps48
          go_wp2_with (first | (go_at_call 41; refine (take_t h hok).mono ?_; rintro e w' ⟨rfl, hg, hi⟩))
          obtain ⟨g, cap, c0, hc, hm, hbt, hcell⟩ := hi.form hlt
          rw [HX.out] at hcell
          have c1 := hi.rd
          unfold maxLen at hm
          go_quiet ((go_at_call 57; exact Calls.quiet_of (ended_t (hi.drewN _))))
          go_wp2
          go_ret
          exact ⟨rfl, grownBy_trans hg (gd _), hi.drewN _⟩
    · rw [if_neg h13]
      go_enter Tryd.func48, Tryd.ntmps48
      go_wp2_with (first | (go_at_call 41; refine (take_t h hok).mono ?_; rintro e w' ⟨rfl, hg, hi⟩))
      go_ret
      exact ⟨rfl, hg, hi⟩

theorem ln_pos {l : Bs} {k : Nat} (h : okl l k = true) : 1 ≤ ln l k := by
  have hb := dec_bd (l.drop k)
  rcases hb with h0 | h0
  · exfalso
    have := dec_zero h0
    unfold okl lt at h
    rw [this] at h
    revert h
    decide
  · unfold ln
    omega
theorem blk_end {n : Nat} {l : Bs} {j : Nat} (h : j = l.length) : blkS n l j = .ok () j := by
  cases n with
  | zero => rfl
  | succ n => rw [blkS, if_pos h]
theorem blk_bad {n : Nat} {l : Bs} {j : Nat} (h : ¬ j = l.length) (hok : okl l j = false) : blkS (n + 1) l j = .bad j 2 := by
  rw [blkS, if_neg h, if_neg (by rw [hok]; simp)]
theorem blk_stop {n : Nat} {l : Bs} {j : Nat} (h : ¬ j = l.length) (hok : okl l j = true) (hw : isWhite (lt l j) = false) : blkS (n + 1) l j = .ok () j := by
  rw [blkS, if_neg h, if_pos hok, if_neg (by rw [hw]; simp)]
theorem blk_step {n : Nat} {l : Bs} {j : Nat} (h : ¬ j = l.length) (hok : okl l j = true) (hw : isWhite (lt l j) = true) : blkS (n + 1) l j = blkS n l (j + ln l j) := by
  rw [blkS, if_neg h, if_pos hok, if_pos hw]

set_option maxHeartbeats 400000 in
theorem blanks_s {P k : Nat} {v : PV} {l : Bs} {w : World} (h : In P w v l k) : Calls Tryd.prog 51 #[pp P] w (Scan P w v l .bool (blanksS l k)) := by
  have c1 := h.rd
  go_enter Tryd.func51, Tryd.ntmps51
  go_wp2
  go_loopg [] (l.length - k) (fun n wr => ∃ j : Nat, w.grownBy wr (some P) ∧ In P wr { v with k := (j : Int) } l j ∧ l.length - j ≤ n ∧ Hid (blkS n l j = blkS (l.length - k) l k))
  case atStart => exact ⟨k, World.grownBy.refl _ _, h.self, Nat.le_refl _, rfl⟩
  case round =>
    obtain ⟨j, hg, hi, hn, HF⟩ := hrel
    have c1' := hi.rd
    have hjl := hi.kl
    have hbd := h.ll
    by_cases hj : j = l.length
    · have hb : (j == l.length) = true := by simp [hj]
      have HR : Hid (blanksS l k = .ok (decide (k < j)) j) := by
        unfold blanksS
        rw [← HF.out, blk_end hj]
        rfl
      clear hj
      go_wp2_with (first | (go_at_call 57; refine (ended_t hi).mono ?_; rintro e w' ⟨rfl, m, rfl⟩))
      go_ret
      rw [HR.out]
      exact ⟨ret_bool (by first | rfl | (rw [Bool.eq_iff_iff]; simp)), grownBy_trans hg (gd _), hi.drewN _⟩
    · have hb : (j == l.length) = false := by simp [hj]
      obtain ⟨n, rfl⟩ : ∃ n, gk = n + 1 := ⟨gk - 1, by omega⟩
      cases hok : okl l j
      · have HR : Hid (blanksS l k = .bad j 2) := by
          unfold blanksS
          rw [← HF.out, blk_bad hj hok]
          rfl
        clear hj
        go_wp2_with (first | (go_at_call 57; refine (ended_t hi).mono ?_; rintro e w' ⟨rfl, m, rfl⟩) | (go_at_call 40; refine (peek_f (hi.drewN _) hok).mono ?_; rintro e w' ⟨rfl, m2, rfl⟩))
        refine ⟨rfl, ?_⟩
        rw [HR.out]
        exact ⟨rfl, grownBy_trans hg (gd _), j, hi.ps⟩
      · cases hw : isWhite (lt l j)
        · have HR : Hid (blanksS l k = .ok (decide (k < j)) j) := by
            unfold blanksS
            rw [← HF.out, blk_stop hj hok hw]
            rfl
          clear hj
          go_wp2_with (first | (go_at_call 57; refine (ended_t hi).mono ?_; rintro e w' ⟨rfl, m, rfl⟩) | (go_at_call 40; refine (peek_t (hi.drewN _) hok).mono ?_; rintro e w' ⟨rfl, m2, rfl⟩) | (go_at_call 50; refine (white_any _ _).mono ?_; rintro e w' ⟨rfl, rfl⟩))
          go_ret
          rw [HR.out]
          exact ⟨ret_bool (by first | rfl | (rw [Bool.eq_iff_iff]; simp)), grownBy_trans hg (gd _), hi.drewN _⟩
        · have HS : Hid (blkS (n + 1) l j = blkS n l (j + ln l j)) := blk_step hj hok hw
          have hpos := ln_pos hok
          have hle := ln_le l j hjl
          clear hj
          go_wp2_with (first | (go_at_call 57; refine (ended_t hi).mono ?_; rintro e w' ⟨rfl, m, rfl⟩) | (go_at_call 40; refine (peek_t (hi.drewN _) hok).mono ?_; rintro e w' ⟨rfl, m2, rfl⟩) | (go_at_call 50; refine (white_any _ _).mono ?_; rintro e w' ⟨rfl, rfl⟩) | (go_at_call 41; refine (take_t (hi.drewN _) hok).mono ?_; rintro e w' ⟨rfl, hg2, hi2⟩))
          go_roundg n
          case measure => omega
          case rel => exact ⟨j + ln l j, grownBy_trans hg (grownBy_trans (gd _) hg2), hi2, by omega, by rw [← HS.out]; exact HF⟩

theorem In.iterAt {P k it pos : Nat} {s : ByteArray} {w : World} {v : PV} {l : Bs} (h : In P w v l k) (hk : w.heap[it]? = some (.stringIter s pos)) (pos' : Nat) : In P (w.iterAt it s pos') v l k := by
  have hne : P ≠ it := by
    rintro rfl
    have := h.ps
    unfold PS at this
    rw [hk] at this
    cases this
  refine ⟨?_, ⟨own_iter h.br.1 hk pos', h.br.2⟩, h.ke, h.kl, h.ll⟩
  unfold PS
  rw [Lib.iterAt_other _ _ _ _ _ hne]
  exact h.ps
theorem In.ne_iter {P k it pos : Nat} {s : ByteArray} {w : World} {v : PV} {l : Bs} (h : In P w v l k) (hk : w.heap[it]? = some (.stringIter s pos)) : some it ≠ some P := by
  intro e
  cases e
  have := h.ps
  unfold PS at this
  rw [hk] at this
  cases this
theorem grownBy_iterAt {W w : World} {row : Option Nat} {it : Nat} (h : W.grownBy w row) (hit : W.heap.size ≤ it) (s : ByteArray) (pos : Nat) : W.grownBy (w.iterAt it s pos) row :=
  ⟨h.os, h.tape, h.output, by rw [Lib.iterAt_size]; exact h.size, fun k hk hne => by rw [Lib.iterAt_other _ _ _ _ _ (by omega)]; exact h.block k hk hne⟩

theorem bl_drop {s : ByteArray} {i : Nat} (h : i < s.size) : (bl s).drop i = (s[i].toNat : Int) :: (bl s).drop (i + 1) := by
  have hl : i < (bl s).length := by rw [bl_len]; exact h
  rw [List.drop_eq_getElem_cons hl]
  congr 1
  simp [bl]
  rfl
set_option maxHeartbeats 400000 in
theorem word_s {P k : Nat} {v : PV} {l : Bs} {w : World} (s : ByteArray) (blame : Int) (hs : ∀ (i : Nat) (h : i < s.size), (s[i]'h).toNat < 128) (h : In P w v l k) :
    Calls Tryd.prog 66 #[pp P, .string s, .int .i64 blame] w (Scan P w v l ret0 (wordS l blame (bl s) k)) := by
  go_enter Tryd.func66, Tryd.ntmps66
  go_wp2
  go_loopg [] s.size (fun n wr => ∃ i j : Nat, i + n = s.size ∧ wr.heap[w.heap.size]? = some (.stringIter s i) ∧ w.grownBy wr (some P) ∧ In P wr { v with k := (j : Int) } l j ∧ Hid (wordS l blame ((bl s).drop i) j = wordS l blame (bl s) k))
  case atStart => exact ⟨0, k, by omega, World.iter_heap _ _ _, World.grownBy_alloc _ _ _, (h.alloc _).self, rfl⟩
  case round =>
    obtain ⟨i, j, hin, hit, hg, hi, HF⟩ := hrel
    have HT : Hid (wr.heap[w.heap.size]? = some (.stringIter s i)) := hit
    clear hit
    by_cases his : i < s.size
    · have hnx := fun ty => Lib.run_next_ascii_at (P := Tryd.prog) wr w.heap.size s i ty HT.out his (hs i his)
      have HC : Hid ((bl s).drop i = (s[i].toNat : Int) :: (bl s).drop (i + 1)) := bl_drop his
      have hi' := hi.iterAt HT.out (i + 1)
      have hne := hi.ne_iter HT.out
      have hlt' : w.heap.size < (wr.iterAt w.heap.size s (i + 1)).heap.size := by
        rw [Lib.iterAt_size]; exact (Array.getElem?_eq_some_iff.1 HT.out).1
      have HT' := Lib.iterAt_heap _ _ _ _ (i + 1) HT.out
      have hg' := grownBy_iterAt hg (Nat.le_refl _) s (i + 1)
      clear hi hg
      cases hok : okl l j
      · have HR : Hid (wordS l blame (bl s) k = .bad j 2) := by
          rw [← HF.out, HC.out, wordS, takeS_f hok]; rfl
        go_wp2_with (first | (go_at_call 41; refine (take_f hi' hok).mono ?_; rintro e w' ⟨rfl, hg2, kk, hp⟩))
        refine ⟨rfl, ?_⟩
        rw [HR.out]
        exact ⟨rfl, grownBy_trans hg' hg2, kk, hp⟩
      · by_cases hr : lt l j = (s[i].toNat : Int)
        · have HS : Hid (wordS l blame ((bl s).drop (i + 1)) (j + ln l j) = wordS l blame (bl s) k) := by
            rw [← HF.out, HC.out, wordS, takeS_t hok, bind_ok, if_pos hr]; exact rfl
          have hrb : (lt l j != (s[i].toNat : Int)) = false := by simp [hr]
          clear hr
          go_wp2_with (first | (go_at_call 41; refine (take_t hi' hok).mono ?_; rintro e w' ⟨rfl, hg2, hi2⟩))
          go_roundg (s.size - (i + 1))
          case measure => omega
          case rel => exact ⟨i + 1, j + ln l j, by omega, (hg2.block _ hlt' hne).trans HT', grownBy_trans hg' hg2, hi2, HS⟩
        · have HR : Hid (wordS l blame (bl s) k = .bad blame 2) := by
            rw [← HF.out, HC.out, wordS, takeS_t hok, bind_ok, if_neg hr]; exact rfl
          have hrb : (lt l j != (s[i].toNat : Int)) = true := by simp [hr]
          clear hr
          go_wp2_with (first | (go_at_call 41; refine (take_t hi' hok).mono ?_; rintro e w' ⟨rfl, hg2, hi2⟩) | (go_at_call 47; refine (fail_any _ _ _).mono ?_; rintro e w' ⟨rfl, rfl⟩))
          refine ⟨rfl, ?_⟩
          rw [HR.out]
          exact ⟨rfl, grownBy_trans hg' hg2, _, hi2.ps⟩
    · have hnx := fun ty => Lib.run_next_end_at (P := Tryd.prog) wr w.heap.size s i ty HT.out his
      have HR : Hid (wordS l blame (bl s) k = .ok () j) := by
        rw [← HF.out, List.drop_eq_nil_of_le (by rw [bl_len]; omega), wordS]; exact rfl
      go_wp2
      go_end0
      rw [HR.out]
      exact ⟨rfl, hg, hi⟩
end Go.Proofs.YtjcgnbmpnaapdaaDoor
namespace Go.Proofs.YtjcgnbmpnaapdaaDoor
open Go.RowKit
set_option linter.unusedVariables false

set_option maxHeartbeats 800000 in
theorem digit_s {P k : Nat} {v : PV} {l : Bs} {w : World} (base amp : Int) (hbase : base = 10 ∨ base = 16) (h : In P w v l k) :
    Calls Tryd.prog 85 #[pp P, .int .i32 base, .int .i64 amp] w (Scan P w v l (.int .i32) (digitS l base amp k)) := by
  cases hok : okl l k
  · rw [digitS, takeS_f hok, bind_bad]
    go_enter Tryd.func85, Tryd.ntmps85
    go_wp2_with (go_at_call 41; refine (take_f h hok).mono ?_; rintro e w' ⟨rfl, hg, kk, hp⟩)
    exact ⟨rfl, rfl, hg, kk, hp⟩
  · rw [digitS, takeS_t hok, bind_ok]
    by_cases hA : 48 ≤ lt l k ∧ lt l k ≤ 57
    · obtain ⟨a1, a2⟩ := hA
      have e : digV base (lt l k) = some (lt l k - 48) := by rw [digV, if_pos ⟨a1, a2⟩]
      rw [e]
      clear e
      go_enter Tryd.func85, Tryd.ntmps85
      go_wp2_with (go_at_call 41; refine (take_t h hok).mono ?_; rintro e w' ⟨rfl, hg, hi⟩)
      go_ret
      exact ⟨rfl, hg, hi⟩
    · rcases hbase with rfl | rfl
      · have e : digV 10 (lt l k) = none := by rw [digV, if_neg hA, if_neg (by simp), if_neg (by simp)]
        rw [e]
        clear e
        go_enter Tryd.func85, Tryd.ntmps85
        go_wp2_with (first | (go_at_call 41; refine (take_t h hok).mono ?_; rintro e w' ⟨rfl, hg, hi⟩) | (go_at_call 47; refine (fail_any _ _ _).mono ?_; rintro e w' ⟨rfl, rfl⟩))
        all_goals (first | (exact ⟨rfl, rfl, hg, _, hi.ps⟩) | (exfalso; omega))
      · by_cases hB : 97 ≤ lt l k ∧ lt l k ≤ 102
        · obtain ⟨a1, a2⟩ := hB
          have e : digV 16 (lt l k) = some (lt l k - 97 + 10) := by rw [digV, if_neg hA, if_pos ⟨rfl, a1, a2⟩]
          rw [e]
          have n1 : ¬ lt l k ≤ 57 := by omega
          clear e hA
          go_enter Tryd.func85, Tryd.ntmps85
          go_wp2_with (go_at_call 41; refine (take_t h hok).mono ?_; rintro e w' ⟨rfl, hg, hi⟩)
          go_ret
          exact ⟨rfl, hg, hi⟩
        · by_cases hC : 65 ≤ lt l k ∧ lt l k ≤ 70
          · obtain ⟨a1, a2⟩ := hC
            have e : digV 16 (lt l k) = some (lt l k - 65 + 10) := by rw [digV, if_neg hA, if_neg (fun q => hB q.2), if_pos ⟨rfl, a1, a2⟩]
            rw [e]
            have n1 : ¬ lt l k ≤ 57 := by omega
            have n2 : ¬ 97 ≤ lt l k := by omega
            clear e hA hB
            go_enter Tryd.func85, Tryd.ntmps85
            go_wp2_with (go_at_call 41; refine (take_t h hok).mono ?_; rintro e w' ⟨rfl, hg, hi⟩)
            go_ret
            exact ⟨rfl, hg, hi⟩
          · have e : digV 16 (lt l k) = none := by rw [digV, if_neg hA, if_neg (fun q => hB q.2), if_neg (fun q => hC q.2)]
            rw [e]
            clear e
            go_enter Tryd.func85, Tryd.ntmps85
            go_wp2_with (first | (go_at_call 41; refine (take_t h hok).mono ?_; rintro e w' ⟨rfl, hg, hi⟩) | (go_at_call 47; refine (fail_any _ _ _).mono ?_; rintro e w' ⟨rfl, rfl⟩))
            all_goals (first | (exact ⟨rfl, rfl, hg, _, hi.ps⟩) | (exfalso; omega))

set_option maxHeartbeats 400000 in
theorem amp_s {P k : Nat} {v : PV} {l : Bs} {w : World} (amp : Int) (h : In P w v l k) :
    Calls Tryd.prog 67 #[pp P, .int .i64 amp] w (Scan P w v l (.int .i32) (ampS l amp k)) := by
  cases hok : okl l k
  · rw [ampS, peekS_f hok, bind_bad]
    go_enter Tryd.func67, Tryd.ntmps67
    go_wp2_with (go_at_call 40; refine (peek_f h hok).mono ?_; rintro e w' ⟨rfl, m, rfl⟩)
    exact ⟨rfl, rfl, gd m, v.k, h.ps⟩
  · rw [ampS, peekS_t hok, bind_ok]
    by_cases h1 : lt l k = 109
    · rw [if_pos h1]
      have hw := fun m => word_s (w := w.drewN m) ⟨#[109, 112, 59]⟩ amp (by decide) (h.drewN m)
      have e : bl ⟨#[109, 112, 59]⟩ = [109, 112, 59] := rfl
      rw [e] at hw
      rcases hr : wordS l amp [109, 112, 59] k with ⟨_, k1⟩ | ⟨p, er⟩
      · rw [bind_ok]
        go_enter Tryd.func67, Tryd.ntmps67
        go_wp2_with (first | (go_at_call 40; refine (peek_t h hok).mono ?_; rintro e w' ⟨rfl, m, rfl⟩) | (go_at_call 66; refine (scan_ok (hw _) hr).mono ?_; rintro e w' ⟨rfl, hg, hi⟩))
        go_ret
        exact ⟨rfl, grownBy_trans (gd _) hg, hi⟩
      · rw [bind_bad]
        go_enter Tryd.func67, Tryd.ntmps67
        go_wp2_with (first | (go_at_call 40; refine (peek_t h hok).mono ?_; rintro e w' ⟨rfl, m, rfl⟩) | (go_at_call 66; refine (scan_bad (hw _) hr).mono ?_; rintro e w' ⟨rfl, hg, kk, hp⟩))
        exact ⟨rfl, rfl, grownBy_trans (gd _) hg, kk, hp⟩
    · rw [if_neg h1]
      have h1b : (lt l k == 109) = false := by simp [h1]
      have hw := fun m => word_s (w := w.drewN m) ⟨#[112, 111, 115, 59]⟩ amp (by decide) (h.drewN m)
      have e : bl ⟨#[112, 111, 115, 59]⟩ = [112, 111, 115, 59] := rfl
      rw [e] at hw
      clear h1
      rcases hr : wordS l amp [112, 111, 115, 59] k with ⟨_, k1⟩ | ⟨p, er⟩
      · rw [bind_ok]
        go_enter Tryd.func67, Tryd.ntmps67
        go_wp2_with (first | (go_at_call 40; refine (peek_t h hok).mono ?_; rintro e w' ⟨rfl, m, rfl⟩) | (go_at_call 66; refine (scan_ok (hw _) hr).mono ?_; rintro e w' ⟨rfl, hg, hi⟩))
        go_ret
        exact ⟨rfl, grownBy_trans (gd _) hg, hi⟩
      · rw [bind_bad]
        go_enter Tryd.func67, Tryd.ntmps67
        go_wp2_with (first | (go_at_call 40; refine (peek_t h hok).mono ?_; rintro e w' ⟨rfl, m, rfl⟩) | (go_at_call 66; refine (scan_bad (hw _) hr).mono ?_; rintro e w' ⟨rfl, hg, kk, hp⟩))
        exact ⟨rfl, rfl, grownBy_trans (gd _) hg, kk, hp⟩

theorem digV_bd {base r d : Int} (h : digV base r = some d) : 0 ≤ d ∧ d < 16 := by
  unfold digV at h
  repeat' split at h
  all_goals (simp at h; try omega)
theorem digitS_ok {l : Bs} {base amp d : Int} {k k1 : Nat} (h : digitS l base amp k = .ok d k1) : 0 ≤ d ∧ d < 16 ∧ k1 = k + ln l k ∧ okl l k = true := by
  cases hok : okl l k
  · rw [digitS, takeS_f hok, bind_bad] at h; cases h
  · rw [digitS, takeS_t hok, bind_ok] at h
    split at h
    · rename_i x hx
      cases h
      have := digV_bd hx
      exact ⟨this.1, this.2, rfl, rfl⟩
    · cases h

set_option maxHeartbeats 1600000 in
theorem number_s {P k : Nat} {v : PV} {l : Bs} {w : World} (amp : Int) (h : In P w v l k) :
    Calls Tryd.prog 65 #[pp P, .int .i64 amp] w (Scan P w v l (.int .i32) (numberS l amp k)) := by
  cases hok : okl l k
  · rw [numberS, peekS_f hok, bind_bad]
    go_enter Tryd.func65, Tryd.ntmps65
    go_wp2_with (go_at_call 40; refine (peek_f h hok).mono ?_; rintro e w' ⟨rfl, m, rfl⟩)
    exact ⟨rfl, rfl, gd m, v.k, h.ps⟩
  · rw [numberS, peekS_t hok, bind_ok]
    by_cases hx : lt l k = 120
    · rw [if_pos hx]
      have HB : Hid (numB l 16 amp (k + ln l k) = (digitS l 16 amp (k + ln l k)).bind fun d k' => (numL (l.length + 1) l 16 amp d k').bind fun v k2 => (takeS l k2).bind fun _ k3 => if isChar v = true then .ok v k3 else .bad amp 2) := rfl
      rcases hd : digitS l 16 amp (k + ln l k) with ⟨d, k1⟩ | ⟨p, er⟩
      · have HD : Hid (digitS l 16 amp (k + ln l k) = .ok d k1) := hd
        obtain ⟨d0, d1, hk1, _⟩ := digitS_ok hd
        clear hd hk1
        go_enter Tryd.func65, Tryd.ntmps65
        go_wp2_with (first | (go_at_call 40; refine (peek_t h hok).mono ?_; rintro e w' ⟨rfl, m, rfl⟩) | (go_at_call 41; refine (take_t (h.drewN _) hok).mono ?_; rintro e w' ⟨rfl, hg0, hi0⟩) | (go_at_call 85; refine (scan_ok (digit_s 16 amp (by simp) hi0) HD.out).mono ?_; rintro e w1 ⟨rfl, hg1, hi1⟩))
        go_loopg [6] (l.length + 1) (fun n nv wr => ∃ (j : Nat) (x : Int), nv = .int .i32 x ∧ 0 ≤ x ∧ x ≤ 1114111 ∧ w.grownBy wr (some P) ∧ In P wr { v with k := (j : Int) } l j ∧ l.length - j + 1 ≤ n ∧ Hid (numL n l 16 amp x j = numL (l.length + 1) l 16 amp d k1))
        case atStart => exact ⟨k1, d, rfl, d0, by omega, grownBy_trans (grownBy_trans (gd _) hg0) hg1, hi1, by omega, rfl⟩
        case round =>
          obtain ⟨j, x, rfl, hx0, hx1, hg, hi, hn, HF⟩ := hrel
          obtain ⟨n, rfl⟩ : ∃ n, gk = n + 1 := ⟨gk - 1, by omega⟩
          have hjl := hi.kl
          cases hokj : okl l j
          · have HR : Hid (numB l 16 amp (k + ln l k) = .bad j 2) := by
              rw [HB.out, HD.out, bind_ok, ← HF.out, numL, peekS_f hokj]; exact rfl
            go_wp2_with (first | (go_at_call 40; refine (peek_f hi hokj).mono ?_; rintro e w' ⟨rfl, m, rfl⟩))
            refine ⟨rfl, ?_⟩
            rw [HR.out]
            exact ⟨rfl, grownBy_trans hg (gd _), _, hi.ps⟩
          · have hpos := ln_pos hokj
            by_cases h59 : lt l j = 59
            · have hle := ln_le l j hjl
              cases hch : isChar x
              · have HR : Hid (numB l 16 amp (k + ln l k) = .bad amp 2) := by
                  rw [HB.out, HD.out, bind_ok, ← HF.out, numL, peekS_t hokj, bind_ok, if_pos h59, bind_ok, takeS_t hokj, bind_ok, if_neg (by rw [hch]; simp)]; exact rfl
                go_wp2_with (first | (go_at_call 40; refine (peek_t hi hokj).mono ?_; rintro e w' ⟨rfl, m, rfl⟩) | (go_at_call 41; refine (take_t (hi.drewN _) hokj).mono ?_; rintro e w' ⟨rfl, hg2, hi2⟩) | (go_at_call 79; refine (char_any _ _).mono ?_; rintro e w' ⟨rfl, rfl⟩) | (go_at_call 47; refine (fail_any _ _ _).mono ?_; rintro e w' ⟨rfl, rfl⟩))
                refine ⟨rfl, ?_⟩
                rw [HR.out]
                exact ⟨rfl, grownBy_trans hg (grownBy_trans (gd _) hg2), _, hi2.ps⟩
              · have HR : Hid (numB l 16 amp (k + ln l k) = .ok x (j + ln l j)) := by
                  rw [HB.out, HD.out, bind_ok, ← HF.out, numL, peekS_t hokj, bind_ok, if_pos h59, bind_ok, takeS_t hokj, bind_ok, if_pos hch]; exact rfl
                go_wp2_with (first | (go_at_call 40; refine (peek_t hi hokj).mono ?_; rintro e w' ⟨rfl, m, rfl⟩) | (go_at_call 41; refine (take_t (hi.drewN _) hokj).mono ?_; rintro e w' ⟨rfl, hg2, hi2⟩) | (go_at_call 79; refine (char_any _ _).mono ?_; rintro e w' ⟨rfl, rfl⟩))
                go_ret
                rw [HR.out]
                exact ⟨rfl, grownBy_trans hg (grownBy_trans (gd _) hg2), hi2⟩
            · have h59b : (lt l j != 59) = true := by simp [h59]
              rcases hdj : digitS l 16 amp j with ⟨dj, k2⟩ | ⟨p, er⟩
              · obtain ⟨e0, e1, hk2, _⟩ := digitS_ok hdj
                have HDJ : Hid (digitS l 16 amp j = .ok dj k2) := hdj
                clear hdj
                have HK2 : Hid (k2 = j + ln l j) := hk2
                clear hk2
                by_cases hbig : 1114111 < x * 16 + dj
                · have HR : Hid (numB l 16 amp (k + ln l k) = .bad amp 2) := by
                    rw [HB.out, HD.out, bind_ok, ← HF.out, numL, peekS_t hokj, bind_ok, if_neg h59, HDJ.out, bind_ok, if_pos hbig]; exact rfl
                  clear h59
                  go_wp2_with (first | (go_at_call 40; refine (peek_t hi hokj).mono ?_; rintro e w' ⟨rfl, m, rfl⟩) | (go_at_call 85; refine (scan_ok (digit_s 16 amp (by simp) (hi.drewN _)) HDJ.out).mono ?_; rintro e w' ⟨rfl, hg2, hi2⟩) | (go_at_call 47; refine (fail_any _ _ _).mono ?_; rintro e w' ⟨rfl, rfl⟩))
                  refine ⟨rfl, ?_⟩
                  rw [HR.out]
                  exact ⟨rfl, grownBy_trans hg (grownBy_trans (gd _) hg2), _, hi2.ps⟩
                · have HS : Hid (numL n l 16 amp (x * 16 + dj) k2 = numL (l.length + 1) l 16 amp d k1) := by
                    rw [← HF.out, numL, peekS_t hokj, bind_ok, if_neg h59, HDJ.out, bind_ok, if_neg hbig]; exact rfl
                  clear h59
                  go_wp2_with (first | (go_at_call 40; refine (peek_t hi hokj).mono ?_; rintro e w' ⟨rfl, m, rfl⟩) | (go_at_call 85; refine (scan_ok (digit_s 16 amp (by simp) (hi.drewN _)) HDJ.out).mono ?_; rintro e w' ⟨rfl, hg2, hi2⟩))
                  go_roundg n
                  case measure => omega
                  case rel =>
                    have hk2 := HK2.out
                    have hkl2 := hi2.kl
                    exact ⟨k2, x * 16 + dj, rfl, by omega, by omega, grownBy_trans hg (grownBy_trans (gd _) hg2), hi2, by omega, HS⟩
              · have HR : Hid (numB l 16 amp (k + ln l k) = .bad p er) := by
                  rw [HB.out, HD.out, bind_ok, ← HF.out, numL, peekS_t hokj, bind_ok, if_neg h59, hdj, bind_bad]; exact rfl
                have HDJ : Hid (digitS l 16 amp j = .bad p er) := hdj
                clear h59 hdj
                go_wp2_with (first | (go_at_call 40; refine (peek_t hi hokj).mono ?_; rintro e w' ⟨rfl, m, rfl⟩) | (go_at_call 85; refine (scan_bad (digit_s 16 amp (by simp) (hi.drewN _)) HDJ.out).mono ?_; rintro e w' ⟨rfl, hg2, kk, hp2⟩))
                refine ⟨rfl, ?_⟩
                rw [HR.out]
                exact ⟨rfl, grownBy_trans hg (grownBy_trans (gd _) hg2), kk, hp2⟩
      · have HR : Hid (numB l 16 amp (k + ln l k) = .bad p er) := by rw [HB.out, hd]; exact rfl
        have HD : Hid (digitS l 16 amp (k + ln l k) = .bad p er) := hd
        clear hd
        go_enter Tryd.func65, Tryd.ntmps65
        go_wp2_with (first | (go_at_call 40; refine (peek_t h hok).mono ?_; rintro e w' ⟨rfl, m, rfl⟩) | (go_at_call 41; refine (take_t (h.drewN _) hok).mono ?_; rintro e w' ⟨rfl, hg0, hi0⟩) | (go_at_call 85; refine (scan_bad (digit_s 16 amp (by simp) hi0) HD.out).mono ?_; rintro e w1 ⟨rfl, hg1, kk, hp⟩))
        refine ⟨rfl, ?_⟩
        rw [HR.out]
        exact ⟨rfl, grownBy_trans (grownBy_trans (gd _) hg0) hg1, kk, hp⟩
    · rw [if_neg hx]
      have hxb : (lt l k == 120) = false := by simp [hx]
      clear hx
      have HB : Hid (numB l 10 amp (k) = (digitS l 10 amp (k)).bind fun d k' => (numL (l.length + 1) l 10 amp d k').bind fun v k2 => (takeS l k2).bind fun _ k3 => if isChar v = true then .ok v k3 else .bad amp 2) := rfl
      rcases hd : digitS l 10 amp (k) with ⟨d, k1⟩ | ⟨p, er⟩
      · have HD : Hid (digitS l 10 amp (k) = .ok d k1) := hd
        obtain ⟨d0, d1, hk1, _⟩ := digitS_ok hd
        clear hd hk1
        go_enter Tryd.func65, Tryd.ntmps65
        go_wp2_with (first | (go_at_call 40; refine (peek_t h hok).mono ?_; rintro e w' ⟨rfl, m, rfl⟩) | (go_at_call 85; refine (scan_ok (digit_s 10 amp (by simp) (h.drewN _)) HD.out).mono ?_; rintro e w1 ⟨rfl, hg1, hi1⟩))
        go_loopg [6] (l.length + 1) (fun n nv wr => ∃ (j : Nat) (x : Int), nv = .int .i32 x ∧ 0 ≤ x ∧ x ≤ 1114111 ∧ w.grownBy wr (some P) ∧ In P wr { v with k := (j : Int) } l j ∧ l.length - j + 1 ≤ n ∧ Hid (numL n l 10 amp x j = numL (l.length + 1) l 10 amp d k1))
        case atStart => exact ⟨k1, d, rfl, d0, by omega, grownBy_trans (gd _) hg1, hi1, by omega, rfl⟩
        case round =>
          obtain ⟨j, x, rfl, hx0, hx1, hg, hi, hn, HF⟩ := hrel
          obtain ⟨n, rfl⟩ : ∃ n, gk = n + 1 := ⟨gk - 1, by omega⟩
          have hjl := hi.kl
          cases hokj : okl l j
          · have HR : Hid (numB l 10 amp (k) = .bad j 2) := by
              rw [HB.out, HD.out, bind_ok, ← HF.out, numL, peekS_f hokj]; exact rfl
            go_wp2_with (first | (go_at_call 40; refine (peek_f hi hokj).mono ?_; rintro e w' ⟨rfl, m, rfl⟩))
            refine ⟨rfl, ?_⟩
            rw [HR.out]
            exact ⟨rfl, grownBy_trans hg (gd _), _, hi.ps⟩
          · have hpos := ln_pos hokj
            by_cases h59 : lt l j = 59
            · have hle := ln_le l j hjl
              cases hch : isChar x
              · have HR : Hid (numB l 10 amp (k) = .bad amp 2) := by
                  rw [HB.out, HD.out, bind_ok, ← HF.out, numL, peekS_t hokj, bind_ok, if_pos h59, bind_ok, takeS_t hokj, bind_ok, if_neg (by rw [hch]; simp)]; exact rfl
                go_wp2_with (first | (go_at_call 40; refine (peek_t hi hokj).mono ?_; rintro e w' ⟨rfl, m, rfl⟩) | (go_at_call 41; refine (take_t (hi.drewN _) hokj).mono ?_; rintro e w' ⟨rfl, hg2, hi2⟩) | (go_at_call 79; refine (char_any _ _).mono ?_; rintro e w' ⟨rfl, rfl⟩) | (go_at_call 47; refine (fail_any _ _ _).mono ?_; rintro e w' ⟨rfl, rfl⟩))
                refine ⟨rfl, ?_⟩
                rw [HR.out]
                exact ⟨rfl, grownBy_trans hg (grownBy_trans (gd _) hg2), _, hi2.ps⟩
              · have HR : Hid (numB l 10 amp (k) = .ok x (j + ln l j)) := by
                  rw [HB.out, HD.out, bind_ok, ← HF.out, numL, peekS_t hokj, bind_ok, if_pos h59, bind_ok, takeS_t hokj, bind_ok, if_pos hch]; exact rfl
                go_wp2_with (first | (go_at_call 40; refine (peek_t hi hokj).mono ?_; rintro e w' ⟨rfl, m, rfl⟩) | (go_at_call 41; refine (take_t (hi.drewN _) hokj).mono ?_; rintro e w' ⟨rfl, hg2, hi2⟩) | (go_at_call 79; refine (char_any _ _).mono ?_; rintro e w' ⟨rfl, rfl⟩))
                go_ret
                rw [HR.out]
                exact ⟨rfl, grownBy_trans hg (grownBy_trans (gd _) hg2), hi2⟩
            · have h59b : (lt l j != 59) = true := by simp [h59]
              rcases hdj : digitS l 10 amp j with ⟨dj, k2⟩ | ⟨p, er⟩
              · obtain ⟨e0, e1, hk2, _⟩ := digitS_ok hdj
                have HDJ : Hid (digitS l 10 amp j = .ok dj k2) := hdj
                clear hdj
                have HK2 : Hid (k2 = j + ln l j) := hk2
                clear hk2
                by_cases hbig : 1114111 < x * 10 + dj
                · have HR : Hid (numB l 10 amp (k) = .bad amp 2) := by
                    rw [HB.out, HD.out, bind_ok, ← HF.out, numL, peekS_t hokj, bind_ok, if_neg h59, HDJ.out, bind_ok, if_pos hbig]; exact rfl
                  clear h59
                  go_wp2_with (first | (go_at_call 40; refine (peek_t hi hokj).mono ?_; rintro e w' ⟨rfl, m, rfl⟩) | (go_at_call 85; refine (scan_ok (digit_s 10 amp (by simp) (hi.drewN _)) HDJ.out).mono ?_; rintro e w' ⟨rfl, hg2, hi2⟩) | (go_at_call 47; refine (fail_any _ _ _).mono ?_; rintro e w' ⟨rfl, rfl⟩))
                  refine ⟨rfl, ?_⟩
                  rw [HR.out]
                  exact ⟨rfl, grownBy_trans hg (grownBy_trans (gd _) hg2), _, hi2.ps⟩
                · have HS : Hid (numL n l 10 amp (x * 10 + dj) k2 = numL (l.length + 1) l 10 amp d k1) := by
                    rw [← HF.out, numL, peekS_t hokj, bind_ok, if_neg h59, HDJ.out, bind_ok, if_neg hbig]; exact rfl
                  clear h59
                  go_wp2_with (first | (go_at_call 40; refine (peek_t hi hokj).mono ?_; rintro e w' ⟨rfl, m, rfl⟩) | (go_at_call 85; refine (scan_ok (digit_s 10 amp (by simp) (hi.drewN _)) HDJ.out).mono ?_; rintro e w' ⟨rfl, hg2, hi2⟩))
                  go_roundg n
                  case measure => omega
                  case rel =>
                    have hk2 := HK2.out
                    have hkl2 := hi2.kl
                    exact ⟨k2, x * 10 + dj, rfl, by omega, by omega, grownBy_trans hg (grownBy_trans (gd _) hg2), hi2, by omega, HS⟩
              · have HR : Hid (numB l 10 amp (k) = .bad p er) := by
                  rw [HB.out, HD.out, bind_ok, ← HF.out, numL, peekS_t hokj, bind_ok, if_neg h59, hdj, bind_bad]; exact rfl
                have HDJ : Hid (digitS l 10 amp j = .bad p er) := hdj
                clear h59 hdj
                go_wp2_with (first | (go_at_call 40; refine (peek_t hi hokj).mono ?_; rintro e w' ⟨rfl, m, rfl⟩) | (go_at_call 85; refine (scan_bad (digit_s 10 amp (by simp) (hi.drewN _)) HDJ.out).mono ?_; rintro e w' ⟨rfl, hg2, kk, hp2⟩))
                refine ⟨rfl, ?_⟩
                rw [HR.out]
                exact ⟨rfl, grownBy_trans hg (grownBy_trans (gd _) hg2), kk, hp2⟩
      · have HR : Hid (numB l 10 amp (k) = .bad p er) := by rw [HB.out, hd]; exact rfl
        have HD : Hid (digitS l 10 amp (k) = .bad p er) := hd
        clear hd
        go_enter Tryd.func65, Tryd.ntmps65
        go_wp2_with (first | (go_at_call 40; refine (peek_t h hok).mono ?_; rintro e w' ⟨rfl, m, rfl⟩) | (go_at_call 85; refine (scan_bad (digit_s 10 amp (by simp) (h.drewN _)) HD.out).mono ?_; rintro e w1 ⟨rfl, hg1, kk, hp⟩))
        refine ⟨rfl, ?_⟩
        rw [HR.out]
        exact ⟨rfl, grownBy_trans (gd _) hg1, kk, hp⟩

theorem word_c {P k : Nat} {v : PV} {l : Bs} {w : World} (a : Array UInt8) (blame : Int) (c : List Int) (hs : ∀ (i : Nat) (h : i < (⟨a⟩ : ByteArray).size), ((⟨a⟩ : ByteArray)[i]'h).toNat < 128) (hc : bl ⟨a⟩ = c) (h : In P w v l k) :
    Calls Tryd.prog 66 #[pp P, .string ⟨a⟩, .int .i64 blame] w (Scan P w v l ret0 (wordS l blame c k)) := by
  subst hc
  exact word_s _ _ hs h
set_option maxHeartbeats 1600000 in
theorem ref_s {P k : Nat} {v : PV} {l : Bs} {w : World} (h : In P w v l k) : Calls Tryd.prog 45 #[pp P] w (Scan P w v l (.int .i32) (refS l k)) := by
  have c1 := h.rd
  cases hok : okl l k
  · rw [refS, takeS_f hok, bind_bad]
    go_enter Tryd.func45, Tryd.ntmps45
    go_wp2_with (go_at_call 41; refine (take_f h hok).mono ?_; rintro e w' ⟨rfl, hg, kk, hp⟩)
    exact ⟨rfl, rfl, hg, kk, hp⟩
  · rw [refS, takeS_t hok, bind_ok]
    generalize hk1 : k + ln l k = k1
    have hT := take_t h hok
    rw [hk1] at hT
    clear hk1
    cases hok1 : okl l k1
    · rw [takeS_f hok1, bind_bad]
      go_enter Tryd.func45, Tryd.ntmps45
      go_wp2_with (first | (go_at_call 41; refine hT.mono ?_; rintro e w1 ⟨rfl, hg, hi⟩) | (go_at_call 41; refine (take_f hi hok1).mono ?_; rintro e w' ⟨rfl, hg2, kk, hp⟩))
      exact ⟨rfl, rfl, grownBy_trans hg hg2, kk, hp⟩
    · rw [takeS_t hok1, bind_ok]
      generalize hk2 : k1 + ln l k1 = k2
      generalize hr : lt l k1 = r
      have hT2 : ∀ {v : PV} {w : World}, In P w v l k1 → Calls Tryd.prog 41 #[pp P] w fun e w' => e = .returned (.int .i32 r) ∧ w.grownBy w' (some P) ∧ In P w' { v with k := (k2 : Int) } l k2 := by
        intro v w hh
        have := take_t hh hok1
        rw [hk2, hr] at this
        exact this
      clear hk2 hr
      by_cases h35 : r = 35
      · rw [if_pos h35]
        subst h35
        rcases hn : numberS l k k2 with ⟨x, k3⟩ | ⟨p, er⟩
        · go_enter Tryd.func45, Tryd.ntmps45
          go_wp2_with (first | (go_at_call 41; refine hT.mono ?_; rintro e w1 ⟨rfl, hg, hi⟩) | (go_at_call 41; refine (hT2 hi).mono ?_; rintro e w2 ⟨rfl, hg2, hi2⟩) | (go_at_call 65; refine (scan_ok (number_s _ hi2) hn).mono ?_; rintro e w3 ⟨rfl, hg3, hi3⟩))
          go_ret
          exact ⟨rfl, grownBy_trans hg (grownBy_trans hg2 hg3), hi3⟩
        · go_enter Tryd.func45, Tryd.ntmps45
          go_wp2_with (first | (go_at_call 41; refine hT.mono ?_; rintro e w1 ⟨rfl, hg, hi⟩) | (go_at_call 41; refine (hT2 hi).mono ?_; rintro e w2 ⟨rfl, hg2, hi2⟩) | (go_at_call 65; refine (scan_bad (number_s _ hi2) hn).mono ?_; rintro e w3 ⟨rfl, hg3, kk, hp⟩))
          exact ⟨rfl, rfl, grownBy_trans hg (grownBy_trans hg2 hg3), kk, hp⟩
      · rw [if_neg h35]
        have h35b : (r == 35) = false := by simp [h35]
        clear h35
        by_cases h108 : r = 108
        · rw [if_pos h108]
          subst h108
          rcases hn : wordS l k [116, 59] k2 with ⟨x, k3⟩ | ⟨p, er⟩
          · rw [bind_ok]
            go_enter Tryd.func45, Tryd.ntmps45
            go_wp2_with (first | (go_at_call 41; refine hT.mono ?_; rintro e w1 ⟨rfl, hg, hi⟩) | (go_at_call 41; refine (hT2 hi).mono ?_; rintro e w2 ⟨rfl, hg2, hi2⟩) | (go_at_call 66; refine (scan_ok (word_c #[116, 59] _ [116, 59] (by decide) rfl hi2) hn).mono ?_; rintro e w3 ⟨rfl, hg3, hi3⟩))
            go_ret
            exact ⟨rfl, grownBy_trans hg (grownBy_trans hg2 hg3), hi3⟩
          · rw [bind_bad]
            go_enter Tryd.func45, Tryd.ntmps45
            go_wp2_with (first | (go_at_call 41; refine hT.mono ?_; rintro e w1 ⟨rfl, hg, hi⟩) | (go_at_call 41; refine (hT2 hi).mono ?_; rintro e w2 ⟨rfl, hg2, hi2⟩) | (go_at_call 66; refine (scan_bad (word_c #[116, 59] _ [116, 59] (by decide) rfl hi2) hn).mono ?_; rintro e w3 ⟨rfl, hg3, kk, hp⟩))
            exact ⟨rfl, rfl, grownBy_trans hg (grownBy_trans hg2 hg3), kk, hp⟩
        rw [if_neg h108]
        have h108b : (r == 108) = false := by simp [h108]
        clear h108
        by_cases h103 : r = 103
        · rw [if_pos h103]
          subst h103
          rcases hn : wordS l k [116, 59] k2 with ⟨x, k3⟩ | ⟨p, er⟩
          · rw [bind_ok]
            go_enter Tryd.func45, Tryd.ntmps45
            go_wp2_with (first | (go_at_call 41; refine hT.mono ?_; rintro e w1 ⟨rfl, hg, hi⟩) | (go_at_call 41; refine (hT2 hi).mono ?_; rintro e w2 ⟨rfl, hg2, hi2⟩) | (go_at_call 66; refine (scan_ok (word_c #[116, 59] _ [116, 59] (by decide) rfl hi2) hn).mono ?_; rintro e w3 ⟨rfl, hg3, hi3⟩))
            go_ret
            exact ⟨rfl, grownBy_trans hg (grownBy_trans hg2 hg3), hi3⟩
          · rw [bind_bad]
            go_enter Tryd.func45, Tryd.ntmps45
            go_wp2_with (first | (go_at_call 41; refine hT.mono ?_; rintro e w1 ⟨rfl, hg, hi⟩) | (go_at_call 41; refine (hT2 hi).mono ?_; rintro e w2 ⟨rfl, hg2, hi2⟩) | (go_at_call 66; refine (scan_bad (word_c #[116, 59] _ [116, 59] (by decide) rfl hi2) hn).mono ?_; rintro e w3 ⟨rfl, hg3, kk, hp⟩))
            exact ⟨rfl, rfl, grownBy_trans hg (grownBy_trans hg2 hg3), kk, hp⟩
        rw [if_neg h103]
        have h103b : (r == 103) = false := by simp [h103]
        clear h103
        by_cases h113 : r = 113
        · rw [if_pos h113]
          subst h113
          rcases hn : wordS l k [117, 111, 116, 59] k2 with ⟨x, k3⟩ | ⟨p, er⟩
          · rw [bind_ok]
            go_enter Tryd.func45, Tryd.ntmps45
            go_wp2_with (first | (go_at_call 41; refine hT.mono ?_; rintro e w1 ⟨rfl, hg, hi⟩) | (go_at_call 41; refine (hT2 hi).mono ?_; rintro e w2 ⟨rfl, hg2, hi2⟩) | (go_at_call 66; refine (scan_ok (word_c #[117, 111, 116, 59] _ [117, 111, 116, 59] (by decide) rfl hi2) hn).mono ?_; rintro e w3 ⟨rfl, hg3, hi3⟩))
            go_ret
            exact ⟨rfl, grownBy_trans hg (grownBy_trans hg2 hg3), hi3⟩
          · rw [bind_bad]
            go_enter Tryd.func45, Tryd.ntmps45
            go_wp2_with (first | (go_at_call 41; refine hT.mono ?_; rintro e w1 ⟨rfl, hg, hi⟩) | (go_at_call 41; refine (hT2 hi).mono ?_; rintro e w2 ⟨rfl, hg2, hi2⟩) | (go_at_call 66; refine (scan_bad (word_c #[117, 111, 116, 59] _ [117, 111, 116, 59] (by decide) rfl hi2) hn).mono ?_; rintro e w3 ⟨rfl, hg3, kk, hp⟩))
            exact ⟨rfl, rfl, grownBy_trans hg (grownBy_trans hg2 hg3), kk, hp⟩
        rw [if_neg h113]
        have h113b : (r == 113) = false := by simp [h113]
        clear h113
        by_cases h97 : r = 97
        · rw [if_pos h97]
          subst h97
          rcases hn : ampS l k k2 with ⟨x, k3⟩ | ⟨p, er⟩
          · go_enter Tryd.func45, Tryd.ntmps45
            go_wp2_with (first | (go_at_call 41; refine hT.mono ?_; rintro e w1 ⟨rfl, hg, hi⟩) | (go_at_call 41; refine (hT2 hi).mono ?_; rintro e w2 ⟨rfl, hg2, hi2⟩) | (go_at_call 67; refine (scan_ok (amp_s _ hi2) hn).mono ?_; rintro e w3 ⟨rfl, hg3, hi3⟩))
            go_ret
            exact ⟨rfl, grownBy_trans hg (grownBy_trans hg2 hg3), hi3⟩
          · go_enter Tryd.func45, Tryd.ntmps45
            go_wp2_with (first | (go_at_call 41; refine hT.mono ?_; rintro e w1 ⟨rfl, hg, hi⟩) | (go_at_call 41; refine (hT2 hi).mono ?_; rintro e w2 ⟨rfl, hg2, hi2⟩) | (go_at_call 67; refine (scan_bad (amp_s _ hi2) hn).mono ?_; rintro e w3 ⟨rfl, hg3, kk, hp⟩))
            exact ⟨rfl, rfl, grownBy_trans hg (grownBy_trans hg2 hg3), kk, hp⟩
        rw [if_neg h97]
        have h97b : (r == 97) = false := by simp [h97]
        clear h97
        go_enter Tryd.func45, Tryd.ntmps45
        go_wp2_with (first | (go_at_call 41; refine hT.mono ?_; rintro e w1 ⟨rfl, hg, hi⟩) | (go_at_call 41; refine (hT2 hi).mono ?_; rintro e w2 ⟨rfl, hg2, hi2⟩) | (go_at_call 47; refine (fail_any _ _ _).mono ?_; rintro e w' ⟨rfl, rfl⟩))
        exact ⟨rfl, rfl, grownBy_trans hg hg2, _, hi2.ps⟩
end Go.Proofs.YtjcgnbmpnaapdaaDoor
namespace Go.Proofs.YtjcgnbmpnaapdaaDoor
open Go.RowKit
set_option linter.unusedVariables false

theorem nm_end {n : Nat} {l : Bs} {T : Int} {k j : Nat} (h : j = l.length) : nmS n l T k j = .ok () j := by
  cases n with
  | zero => rfl
  | succ n => rw [nmS, if_pos h]
theorem nm_bad {n : Nat} {l : Bs} {T : Int} {k j : Nat} (h : ¬ j = l.length) (hok : okl l j = false) : nmS (n + 1) l T k j = .bad j 2 := by
  rw [nmS, if_neg h, if_neg (by rw [hok]; simp)]
theorem nm_stop {n : Nat} {l : Bs} {T : Int} {k j : Nat} (h : ¬ j = l.length) (hok : okl l j = true) (hp : isPart (lt l j) = false) : nmS (n + 1) l T k j = .ok () j := by
  rw [nmS, if_neg h, if_pos hok, if_neg (by rw [hp]; simp)]
theorem nm_many {n : Nat} {l : Bs} {T : Int} {k j : Nat} (h : ¬ j = l.length) (hok : okl l j = true) (hp : isPart (lt l j) = true) (ht : T < ((j + ln l j : Nat) : Int) - k) : nmS (n + 1) l T k j = .bad k 3 := by
  rw [nmS, if_neg h, if_pos hok, if_pos hp, if_pos ht]
theorem nm_step {n : Nat} {l : Bs} {T : Int} {k j : Nat} (h : ¬ j = l.length) (hok : okl l j = true) (hp : isPart (lt l j) = true) (ht : ¬ T < ((j + ln l j : Nat) : Int) - k) : nmS (n + 1) l T k j = nmS n l T k (j + ln l j) := by
  rw [nmS, if_neg h, if_pos hok, if_pos hp, if_neg ht]

theorem sub_len {l : Bs} {k j : Nat} (h : j ≤ l.length) : (sub l k j).length = j - k := by unfold sub; simp; omega
theorem sub_at {l : Bs} {k j i : Nat} (h : i < j - k) : (sub l k j).getD i 0 = l.getD (k + i) 0 := by
  unfold sub
  simp [List.getD_eq_getElem?_getD, List.getElem?_drop, h]

/-- A piece of the bytes as a text. -/
theorem conv_sub {w : World} {g cap k j : Nat} {l : Bs} (hb : Bts w (some ⟨g, 0, none⟩) l) (hk : k ≤ j) (hj : j ≤ l.length) (m : Nat) :
    (convert 25 9 (.slice (some ⟨g, k, none⟩) (j - k) (cap - k))).run Tryd.prog (w.drewN m) = .ok (.string (sb (sub l k j))) (w.drewN m) := by
  have := conv_string g k (cap - k) (sub l k j) (w.drewN m) ?_
  · rw [sub_len hj] at this; exact this
  · intro i hi
    rw [sub_len hj] at hi
    rw [sub_at hi]
    rcases hb.2 with rfl | ⟨b, o, he, hc⟩
    · simp at hj; omega
    · simp at he
      obtain ⟨rfl, rfl⟩ := he
      have := hc (k + i) (by omega)
      rw [Nat.zero_add] at this
      exact this

set_option maxHeartbeats 1600000 in
theorem name_s {P k : Nat} {v : PV} {l : Bs} {w : World} (h : In P w v l k) (hT : 0 ≤ v.t ∧ v.t ≤ 65536) : Calls Tryd.prog 72 #[pp P] w (Scan P w v l (fun s => .string (sb s)) (nameS l v.t k)) := by
  have c1 := h.rd
  have hkl := h.kl
  have hll := h.ll
  cases hok : okl l k
  · rw [nameS, if_neg (by rw [hok]; simp)]
    go_enter Tryd.func72, Tryd.ntmps72
    go_wp2_with (go_at_call 40; refine (peek_f h hok).mono ?_; rintro e w' ⟨rfl, m, rfl⟩)
    exact ⟨rfl, rfl, gd m, v.k, h.ps⟩
  · cases hst : isStart (lt l k)
    · rw [nameS, if_neg (by rw [hst]; simp)]
      go_enter Tryd.func72, Tryd.ntmps72
      go_wp2_with (first | (go_at_call 40; refine (peek_t h hok).mono ?_; rintro e w' ⟨rfl, m, rfl⟩) | (go_at_call 74; refine (start_any _ _).mono ?_; rintro e w' ⟨rfl, rfl⟩) | (go_at_call 47; refine (fail_any _ _ _).mono ?_; rintro e w' ⟨rfl, rfl⟩))
      exact ⟨rfl, rfl, gd _, v.k, h.ps⟩
    · rw [nameS, if_pos ⟨hok, hst⟩]
      go_enter Tryd.func72, Tryd.ntmps72
      go_wp2_with (first | (go_at_call 40; refine (peek_t h hok).mono ?_; rintro e w' ⟨rfl, m, rfl⟩) | (go_at_call 74; refine (start_any _ _).mono ?_; rintro e w' ⟨rfl, rfl⟩))
      go_loopg [] (l.length - k) (fun n wr => ∃ j : Nat, k ≤ j ∧ w.grownBy wr (some P) ∧ In P wr { v with k := (j : Int) } l j ∧ l.length - j ≤ n ∧ Hid (nmS n l v.t k j = nmS (l.length - k) l v.t k k))
      case atStart => exact ⟨k, Nat.le_refl _, gd _, (h.drewN _).self, Nat.le_refl _, rfl⟩
      case round =>
        obtain ⟨j, hkj, hg, hi, hn, HF⟩ := hrel
        have d1 := hi.rd
        have hjl := hi.kl
        by_cases hj : j = l.length
        · have hb : (j == l.length) = true := by simp [hj]
          have HR : Hid (nmS (l.length - k) l v.t k k = .ok () j) := by rw [← HF.out, nm_end hj]; exact rfl
          have hlt : k < l.length := okl_lt hok
          rcases hi.br.form with ⟨_, rfl⟩ | ⟨g, cap, hv, hc, hm, hbt⟩
          · simp at hlt
          · have c0 := hi.ps.rd.1
            rw [hv] at c0
            have hcv := fun m => conv_sub (cap := cap) hbt hkj hjl m
            have hck : ¬ cap = k := by omega
            have hm' := hm
            unfold maxLen at hm'
            clear hj
            go_wp2_with (first | (go_at_call 57; refine (ended_t hi).mono ?_; rintro e w' ⟨rfl, m, rfl⟩))
            go_quiet (fail)
            go_wp2
            go_ret
            rw [HR.out, bind_ok]
            exact ⟨rfl, grownBy_trans hg (grownBy_trans (gd _) (gd _)), (hi.drewN _).drewN _⟩
        · have hb : (j == l.length) = false := by simp [hj]
          obtain ⟨n, rfl⟩ : ∃ n, gk = n + 1 := ⟨gk - 1, by omega⟩
          cases hokj : okl l j
          · have HR : Hid (nmS (l.length - k) l v.t k k = .bad j 2) := by rw [← HF.out, nm_bad hj hokj]; exact rfl
            clear hj
            go_wp2_with (first | (go_at_call 57; refine (ended_t hi).mono ?_; rintro e w' ⟨rfl, m, rfl⟩) | (go_at_call 40; refine (peek_f (hi.drewN _) hokj).mono ?_; rintro e w' ⟨rfl, m2, rfl⟩))
            refine ⟨rfl, ?_⟩
            rw [HR.out, bind_bad]
            exact ⟨rfl, grownBy_trans hg (gd _), j, hi.ps⟩
          · cases hp : isPart (lt l j)
            · have HR : Hid (nmS (l.length - k) l v.t k k = .ok () j) := by rw [← HF.out, nm_stop hj hokj hp]; exact rfl
              have hlt : k < l.length := okl_lt hok
              rcases hi.br.form with ⟨_, rfl⟩ | ⟨g, cap, hv, hc, hm, hbt⟩
              · simp at hlt
              · have c0 := hi.ps.rd.1
                rw [hv] at c0
                have hcv := fun m => conv_sub (cap := cap) hbt hkj hjl m
                have hck : ¬ cap = k := by omega
                have hm' := hm
                unfold maxLen at hm'
                clear hj
                go_wp2_with (first | (go_at_call 57; refine (ended_t hi).mono ?_; rintro e w' ⟨rfl, m, rfl⟩) | (go_at_call 40; refine (peek_t (hi.drewN _) hokj).mono ?_; rintro e w' ⟨rfl, m2, rfl⟩) | (go_at_call 86; refine (part_any _ _).mono ?_; rintro e w' ⟨rfl, rfl⟩))
                go_quiet (fail)
                go_wp2
                go_ret
                rw [HR.out, bind_ok]
                exact ⟨rfl, grownBy_trans hg (grownBy_trans (gd _) (gd _)), (hi.drewN _).drewN _⟩
            · have hpos := ln_pos hokj
              have hle := ln_le l j hjl
              have c6 : wr.cell? ⟨P, 6, none⟩ = some (.int .i64 v.t) := hi.ps.cell 6
              by_cases ht : v.t < ((j + ln l j : Nat) : Int) - k
              · have HR : Hid (nmS (l.length - k) l v.t k k = .bad k 3) := by rw [← HF.out, nm_many hj hokj hp ht]; exact rfl
                clear hj
                go_wp2_with (first | (go_at_call 57; refine (ended_t hi).mono ?_; rintro e w' ⟨rfl, m, rfl⟩) | (go_at_call 40; refine (peek_t (hi.drewN _) hokj).mono ?_; rintro e w' ⟨rfl, m2, rfl⟩) | (go_at_call 86; refine (part_any _ _).mono ?_; rintro e w' ⟨rfl, rfl⟩) | (go_at_call 41; refine (take_t (hi.drewN _) hokj).mono ?_; rintro e w' ⟨rfl, hg2, hi2⟩))
                have e1 := hi2.rd
                have e6 : w'.cell? ⟨P, 6, none⟩ = some (.int .i64 v.t) := hi2.ps.cell 6
                go_quiet (fail)
                go_wp2_with (first | (go_at_call 35; refine (many_any _ _ _).mono ?_; rintro e w' ⟨rfl, rfl⟩))
                refine ⟨rfl, ?_⟩
                rw [HR.out, bind_bad]
                exact ⟨rfl, grownBy_trans hg (grownBy_trans (gd _) (grownBy_trans hg2 (gd _))), _, hi2.ps⟩
              · have HS : Hid (nmS n l v.t k (j + ln l j) = nmS (l.length - k) l v.t k k) := by rw [← HF.out, nm_step hj hokj hp ht]; exact rfl
                clear hj
                go_wp2_with (first | (go_at_call 57; refine (ended_t hi).mono ?_; rintro e w' ⟨rfl, m, rfl⟩) | (go_at_call 40; refine (peek_t (hi.drewN _) hokj).mono ?_; rintro e w' ⟨rfl, m2, rfl⟩) | (go_at_call 86; refine (part_any _ _).mono ?_; rintro e w' ⟨rfl, rfl⟩) | (go_at_call 41; refine (take_t (hi.drewN _) hokj).mono ?_; rintro e w' ⟨rfl, hg2, hi2⟩))
                have e1 := hi2.rd
                have e6 : w'.cell? ⟨P, 6, none⟩ = some (.int .i64 v.t) := hi2.ps.cell 6
                go_quiet (fail)
                go_wp2
                go_roundg n
                case measure => omega
                case rel => exact ⟨j + ln l j, by omega, grownBy_trans hg (grownBy_trans (gd _) (grownBy_trans hg2 (gd _))), hi2.drewN _, by omega, HS⟩

set_option maxHeartbeats 400000 in
theorem eq_s {P k : Nat} {v : PV} {l : Bs} {w : World} (h : In P w v l k) : Calls Tryd.prog 70 #[pp P] w (Scan P w v l ret0 (eqS l k)) := by
  rw [eqS]
  rcases h1 : blanksS l k with ⟨g1, k1⟩ | ⟨p, er⟩
  · rw [bind_ok]
    rcases h2 : signS l 61 k1 with ⟨_, k2⟩ | ⟨p, er⟩
    · rw [bind_ok]
      rcases h3 : blanksS l k2 with ⟨g3, k3⟩ | ⟨p, er⟩
      · rw [bind_ok]
        go_enter Tryd.func70, Tryd.ntmps70
        go_wp2_with (first | (go_at_call 51; refine (scan_ok (blanks_s h) h1).mono ?_; rintro e w1 ⟨rfl, hg1, hi1⟩) | (go_at_call 56; refine (scan_ok (sign_s _ hi1) h2).mono ?_; rintro e w2 ⟨rfl, hg2, hi2⟩) | (go_at_call 51; refine (scan_ok (blanks_s hi2) h3).mono ?_; rintro e w3 ⟨rfl, hg3, hi3⟩))
        go_end0
        exact ⟨rfl, grownBy_trans hg1 (grownBy_trans hg2 hg3), hi3⟩
      · rw [bind_bad]
        go_enter Tryd.func70, Tryd.ntmps70
        go_wp2_with (first | (go_at_call 51; refine (scan_ok (blanks_s h) h1).mono ?_; rintro e w1 ⟨rfl, hg1, hi1⟩) | (go_at_call 56; refine (scan_ok (sign_s _ hi1) h2).mono ?_; rintro e w2 ⟨rfl, hg2, hi2⟩) | (go_at_call 51; refine (scan_bad (blanks_s hi2) h3).mono ?_; rintro e w3 ⟨rfl, hg3, kk, hp⟩))
        exact ⟨rfl, rfl, grownBy_trans hg1 (grownBy_trans hg2 hg3), kk, hp⟩
    · rw [bind_bad]
      go_enter Tryd.func70, Tryd.ntmps70
      go_wp2_with (first | (go_at_call 51; refine (scan_ok (blanks_s h) h1).mono ?_; rintro e w1 ⟨rfl, hg1, hi1⟩) | (go_at_call 56; refine (scan_bad (sign_s _ hi1) h2).mono ?_; rintro e w2 ⟨rfl, hg2, kk, hp⟩))
      exact ⟨rfl, rfl, grownBy_trans hg1 hg2, kk, hp⟩
  · rw [bind_bad]
    go_enter Tryd.func70, Tryd.ntmps70
    go_wp2_with (first | (go_at_call 51; refine (scan_bad (blanks_s h) h1).mono ?_; rintro e w1 ⟨rfl, hg1, kk, hp⟩))
    exact ⟨rfl, rfl, hg1, kk, hp⟩
end Go.Proofs.YtjcgnbmpnaapdaaDoor
namespace Go.Proofs.YtjcgnbmpnaapdaaDoor
open Go.RowKit
set_option linter.unusedVariables false

theorem enc_len (r : Int) : ((enc r).length : Int) = wid r := by
  rcases wid_cases r with h | h | h | h | h
  · rw [enc0 h, h]; rfl
  · rw [enc1 h, h]; rfl
  · rw [enc2 h, h]; rfl
  · rw [enc3 h, h]; rfl
  · rw [enc4 h, h]; rfl
theorem char_wid {r : Int} (h : isChar r = true) : 1 ≤ (enc r).length ∧ (enc r).length ≤ 4 := by
  have hl := enc_len r
  have hw := wid_rng r
  have hc := wid_cases r
  unfold isChar at h
  simp at h
  omega
theorem encode_some (r : Int) (w : World) (h : isChar r = true) : Calls Tryd.prog 64 #[.int .i32 r] w fun e w' =>
    ∃ b o, e = .returned (.slice (some ⟨b, o, none⟩) (enc r).length (enc r).length) ∧ Bts w' (some ⟨b, o, none⟩) (enc r) ∧ Below w.heap.size w w' := by
  refine (encode_any r w).mono ?_
  rintro e w' ⟨a, rfl, hb, hbl, hn⟩
  have hl := char_wid h
  rcases hb.2 with h0 | ⟨b, o, rfl, _⟩
  · rw [h0] at hl; simp at hl
  · exact ⟨b, o, rfl, hb, hbl⟩
theorem news_at {w : World} {b o : Nat} {l : List Int} (h : Bts w (some ⟨b, o, none⟩) l) :
    ∀ j u, (l.map (Value.int .u8))[j]? = some u → w.cell? ((⟨b, o, none⟩ : Addr).add j) = some u := by
  intro j u hj
  rw [List.getElem?_map] at hj
  have hjl : j < l.length := by
    rcases Nat.lt_or_ge j l.length with h | h
    · exact h
    · rw [List.getElem?_eq_none h] at hj; simp at hj
  rcases h.2 with rfl | ⟨b', o', he, hc⟩
  · simp at hjl
  · simp at he
    obtain ⟨rfl, rfl⟩ := he
    rw [addr_add, hc j hjl]
    rw [List.getElem?_eq_getElem hjl] at hj
    simp at hj
    rw [← hj]
    simp [List.getD_eq_getElem?_getD, hjl]
theorem u8_cells {l : List Int} : ∀ u ∈ l.map (Value.int .u8), u.oneCell' = true := by
  intro u hu
  obtain ⟨a, _, rfl⟩ := List.mem_map.1 hu
  rfl

/-- The bytes that came out so far: a row of its own. -/
abbrev OR (B : Nat) (w : World) (ov : Value) (out : Bs) : Prop := w.ownsRow B 5 1 ov out.length (out.map (Value.int .u8))

theorem blk_cell {W w2 : World} {a : Addr} {v : Value} (hb : Below W.heap.size W w2) (h : W.cell? a = some v) : w2.cell? a = some v := (hb.cell (World.block_lt_of_cell? W a h)).trans h
theorem blk_froz {W w2 : World} {a : Addr} {v : Value} (hb : Below W.heap.size W w2) (h : W.cell? a = some v) (hf : W.frozen? a = false) : w2.frozen? a = false := (hb.frozen (World.block_lt_of_cell? W a h)).trans hf
theorem blk_own {W w2 : World} {b n size : Nat} {e : TypeId} {v : Value} {x : List Value} (hb : Below W.heap.size W w2) (h : W.ownsRow b e size v n x) : w2.ownsRow b e size v n x := by
  refine h.kept (grownBy_of_below hb none) ?_
  rcases h.2 with ⟨rfl, _⟩ | ⟨g1, c1, cur1, rfl, _⟩
  · exact .inl rfl
  · exact .inr (by simp [Value.ownBlock])
theorem far_cell {w w' : World} {row : Option Nat} {a : Addr} {v : Value} (hg : w.grownBy w' row) (h : w.cell? a = some v) (hne : row ≠ some a.block) : w'.cell? a = some v :=
  (hg.cell_far a (World.block_lt_of_cell? w a h) (fun e => hne e.symm)).trans h
theorem far_froz {w w' : World} {row : Option Nat} {a : Addr} {v : Value} (hg : w.grownBy w' row) (h : w.cell? a = some v) (hf : w.frozen? a = false) (hne : row ≠ some a.block) : w'.frozen? a = false :=
  (hg.frozen_far a (World.block_lt_of_cell? w a h) (fun e => hne e.symm)).trans hf
theorem info5p : ∃ i, Tryd.prog.info? 5 = some i ∧ i.zero = some (.int .u8 0) ∧ i.size = 1 ∧ i.bytes = 1 := by
  have := info5
  cases h : Tryd.prog.info? 5 with
  | none => rw [h] at this; simp at this
  | some i => rw [h] at this; simp at this; exact ⟨i, rfl, this.1, this.2.1, this.2.2⟩

/-- What put leaves. -/
def PutW (B O f : Nat) (ov : Value) (out : Bs) (w w' : World) : Prop := ∃ ov' w3 m, w.grownBy w3 ov.ownBlock ∧ OR B w3 ov' out ∧ ov' ≠ .slice none 0 0 ∧ (∀ k, ov'.ownBlock = some k → ov.ownBlock = some k ∨ w.heap.size ≤ k) ∧ w' = (w3.setCell ⟨O, f + 2, none⟩ ov').drewN m

def putE (T at0 : Int) (out : Bs) (r : Int) : Ending := if T < ((out ++ enc r).length : Int) then .panicked (flt at0 3) else .returned (.tuple #[])
theorem putE_bad {T at0 : Int} {out : Bs} {r : Int} (h : T < (out.length : Int) + ((enc r).length : Int)) : putE T at0 out r = .panicked (flt at0 3) := by
  unfold putE; rw [if_pos (by simp; exact h)]
theorem putE_ok {T at0 : Int} {out : Bs} {r : Int} (h : ¬ T < (out.length : Int) + ((enc r).length : Int)) : putE T at0 out r = .returned (.tuple #[]) := by
  unfold putE; rw [if_neg (by simp; omega)]
set_option maxRecDepth 20000 in
set_option maxHeartbeats 1600000 in
theorem put_any {B P O f : Nat} {T at0 r : Int} {ov : Value} {out : Bs} {w : World} (hc : w.cell? ⟨O, f + 2, none⟩ = some ov) (hf : w.frozen? ⟨O, f + 2, none⟩ = false) (ha : w.cell? ⟨O, f + 1, none⟩ = some (.int .i64 at0))
    (ht : w.cell? ⟨P, 6, none⟩ = some (.int .i64 T)) (hown : OR B w ov out) (hB : B ≤ w.heap.size) (hl : out.length ≤ 65536) (hO : ov.ownBlock ≠ some O) (hP : ov.ownBlock ≠ some P) (hr : isChar r = true) (hd : ¬ (O = P ∧ f + 2 = 6)) :
    Calls Tryd.prog 44 #[pp P, .pointer (some ⟨O, f, none⟩), .int .i32 r] w fun e w' => e = putE T at0 out r ∧ PutW B O f ov (out ++ enc r) w w' := by
  obtain ⟨i0, hi, hz0, hz1, hz2⟩ := info5p
  have hR : Hid (isChar r = true) := hr
  obtain ⟨he1, he4⟩ := char_wid hr
  clear hr
  go_enter Tryd.func44, Tryd.ntmps44
  go_wp2_with fail
  go_region_law (first
    | (refine step_append_lies _ rfl (.tmp 10) (.tmp 12) 25 rfl B 5 i0 (.int .u8 0) 1 1 Tryd.underlying25 hi hz0 hz1 hz2 rfl (by decide) ov out.length (out.map (Value.int .u8)) (by simp [Act.eval]) hown2 ⟨b2, o2, none⟩ (enc r).length (enc r).length ((enc r).map (Value.int .u8)) (by simp [Act.eval]) (by simp) (news_at hbt2) u8_cells (by omega) (by unfold maxLen; omega) (by omega) hB2 _ rfl ?_
       intro g cap w3 hown3 hg3 hat hlt
       have HOW : Hid _ := hown3
       have hc3 := far_cell hg3 hc2 hO
       have hf3 := far_froz hg3 hc2 hf2 hO)
    | (go_simp; go_at_call 64; refine (encode_some r _ hR.out).mono ?_; rintro e w2 ⟨b2, o2, rfl, hbt2, hbl2⟩; have hc2 := blk_cell hbl2 (show _ = some ov from hc); have hf2 := blk_froz hbl2 (show _ = some ov from hc) (show _ = false from hf); have hown2 := blk_own hbl2 (show World.ownsRow _ B 5 1 ov out.length (out.map (Value.int .u8)) from hown); have hB2 : B ≤ w2.heap.size := Nat.le_trans hB hbl2.size; dsimp only))
  all_goals
    have ht2 := blk_cell hbl2 (show _ = some (Value.int .i64 T) from ht)
    have ha2 := blk_cell hbl2 (show _ = some (Value.int .i64 at0) from ha)
    have ht3 := far_cell hg3 ht2 hP
    have ha3 := far_cell hg3 ha2 hO
    have hgw : w.grownBy w3 ov.ownBlock := grownBy_trans (grownBy_trans (grownBy_drewN w 1 _) (grownBy_of_below hbl2 _)) hg3
    have HO4 : Hid (∃ ov', ov' = Value.slice (some ⟨g, 0, none⟩) (out.length + (enc r).length) cap) := ⟨_, rfl⟩
    obtain ⟨ov', hov⟩ := HO4.out
    have hnn : ov' ≠ .slice none 0 0 := by rw [hov]; simp
    have hnb : ∀ k, ov'.ownBlock = some k → ov.ownBlock = some k ∨ w.heap.size ≤ k := by
      rw [hov]
      intro k hk
      simp [Value.ownBlock] at hk
      subst hk
      rcases hat with e | e
      · exact .inl e
      · right
        rw [e]
        exact hbl2.size
    rw [← hov] at HOW
    have hO4 : (w3.setCell ⟨O, f + 2, none⟩ ov').cell? ⟨O, f + 2, none⟩ = some ov' := World.cell?_setCell_same _ _ _ hc3
    have ht4 : (w3.setCell ⟨O, f + 2, none⟩ ov').cell? ⟨P, 6, none⟩ = some (.int .i64 T) := by
      rw [World.cell?_setCell_other]
      · exact ht3
      · intro e; simp at e; exact hd ⟨e.1, by omega⟩
    have ha4 : (w3.setCell ⟨O, f + 2, none⟩ ov').cell? ⟨O, f + 1, none⟩ = some (.int .i64 at0) := by
      rw [World.cell?_setCell_other]
      · exact ha3
      · intro e; simp at e
    have HW : Hid (∀ m, PutW B O f ov (out ++ enc r) w ((w3.setCell ⟨O, f + 2, none⟩ ov').drewN m)) := fun m => ⟨ov', w3, m, hgw, by have := HOW.out; unfold OR; rw [List.map_append, List.length_append]; exact this, hnn, hnb, rfl⟩
    rw [hov] at hO4 ht4 ha4 HW
    generalize w3.setCell ⟨O, f + 2, none⟩ (Value.slice (some ⟨g, 0, none⟩) (out.length + (enc r).length) cap) = w4 at *
    clear hc hf ha ht hown hO hP hd hc2 hf2 hown2 hg3 hat hlt hc3 hf3 ht2 ha2 ht3 ha3 hgw hbt2 hbl2 HOW hnn hnb hov HO4
    go_wp2
    go_quiet (fail)
    go_wp2_with (first | (go_at_call 35; refine (many_any _ _ _).mono ?_; rintro e w' ⟨rfl, rfl⟩))
    · exact ⟨rfl, (putE_bad ‹_›).symm, HW.out _⟩
    · go_end0
      exact ⟨(putE_ok (by omega)).symm, HW.out _⟩
end Go.Proofs.YtjcgnbmpnaapdaaDoor
namespace Go.Proofs.YtjcgnbmpnaapdaaDoor
set_option linter.unusedVariables false

theorem bind_inv {α β : Type} {x : R α} {f : α → Nat → R β} {b : β} {k : Nat} (h : x.bind f = .ok b k) : ∃ a j, x = .ok a j ∧ f a j = .ok b k := by
  cases x with
  | ok a j => exact ⟨a, j, rfl, h⟩
  | bad p e => cases h
theorem takeS_ok {l : Bs} {k k' : Nat} {r : Int} (h : takeS l k = .ok r k') : okl l k = true ∧ r = lt l k ∧ k' = k + ln l k := by
  unfold takeS at h
  split at h
  · cases h; exact ⟨‹_›, rfl, rfl⟩
  · cases h
theorem peekS_ok {l : Bs} {k k' : Nat} {r : Int} (h : peekS l k = .ok r k') : okl l k = true ∧ r = lt l k ∧ k' = k := by
  unfold peekS at h
  split at h
  · cases h; exact ⟨‹_›, rfl, rfl⟩
  · cases h
theorem wordS_le {l : Bs} {blame : Int} : ∀ {c : List Int} {k k' : Nat}, wordS l blame c k = .ok () k' → k ≤ k' := by
  intro c
  induction c with
  | nil => intro k k' h; rw [wordS] at h; cases h; exact Nat.le_refl _
  | cons a c ih =>
    intro k k' h
    rw [wordS] at h
    obtain ⟨r, j, h1, h2⟩ := bind_inv h
    obtain ⟨_, _, rfl⟩ := takeS_ok h1
    split at h2
    · have := ih h2; omega
    · cases h2
theorem numL_le {l : Bs} {base amp : Int} : ∀ {n : Nat} {v v' : Int} {k k' : Nat}, numL n l base amp v k = .ok v' k' → k ≤ k' := by
  intro n
  induction n with
  | zero => intro v v' k k' h; rw [numL] at h; cases h
  | succ n ih =>
    intro v v' k k' h
    rw [numL] at h
    obtain ⟨r, j, h1, h2⟩ := bind_inv h
    split at h2
    · cases h2; exact Nat.le_refl _
    · obtain ⟨d, j2, h3, h4⟩ := bind_inv h2
      obtain ⟨_, _, rfl, _⟩ := digitS_ok h3
      split at h4
      · cases h4
      · have := ih h4; omega
theorem numB_ok {l : Bs} {base amp v : Int} {k k' : Nat} (h : numB l base amp k = .ok v k') : isChar v = true ∧ k ≤ k' := by
  unfold numB at h
  obtain ⟨d, j, h1, h2⟩ := bind_inv h
  obtain ⟨x, j2, h3, h4⟩ := bind_inv h2
  obtain ⟨y, j3, h5, h6⟩ := bind_inv h4
  obtain ⟨_, _, rfl, _⟩ := digitS_ok h1
  have := numL_le h3
  obtain ⟨_, _, rfl⟩ := takeS_ok h5
  split at h6
  · cases h6; exact ⟨‹_›, by omega⟩
  · cases h6
theorem refS_ok {l : Bs} {k k' : Nat} {c : Int} (h : refS l k = .ok c k') : isChar c = true ∧ k < k' := by
  unfold refS at h
  obtain ⟨x, k1, h1, h2⟩ := bind_inv h
  obtain ⟨r, k2, h3, h4⟩ := bind_inv h2
  obtain ⟨o1, _, rfl⟩ := takeS_ok h1
  obtain ⟨o2, _, rfl⟩ := takeS_ok h3
  have p1 := ln_pos o1
  split at h4
  · unfold numberS at h4
    obtain ⟨y, j, h5, h6⟩ := bind_inv h4
    split at h6
    · have := numB_ok h6; exact ⟨this.1, by omega⟩
    · have := numB_ok h6; exact ⟨this.1, by omega⟩
  split at h4
  · obtain ⟨_, j, h5, h6⟩ := bind_inv h4; have := wordS_le h5; cases h6; exact ⟨by decide, by omega⟩
  split at h4
  · obtain ⟨_, j, h5, h6⟩ := bind_inv h4; have := wordS_le h5; cases h6; exact ⟨by decide, by omega⟩
  split at h4
  · obtain ⟨_, j, h5, h6⟩ := bind_inv h4; have := wordS_le h5; cases h6; exact ⟨by decide, by omega⟩
  split at h4
  · unfold ampS at h4
    obtain ⟨y, j, h5, h6⟩ := bind_inv h4
    split at h6
    · obtain ⟨_, j, h5, h6⟩ := bind_inv h6; have := wordS_le h5; cases h6; exact ⟨by decide, by omega⟩
    · obtain ⟨_, j, h5, h6⟩ := bind_inv h6; have := wordS_le h5; cases h6; exact ⟨by decide, by omega⟩
  · cases h4
theorem lineS_ok {l : Bs} {k k' : Nat} {c : Int} (h : lineS l k = .ok c k') : isChar c = true ∧ k < k' := by
  unfold lineS at h
  obtain ⟨r, k1, h1, h2⟩ := bind_inv h
  obtain ⟨o1, rfl, rfl⟩ := takeS_ok h1
  have p1 := ln_pos o1
  split at h2
  · split at h2
    · cases h2; exact ⟨by decide, by omega⟩
    · cases h2; exact ⟨by decide, by omega⟩
  · cases h2; exact ⟨o1, by omega⟩
end Go.Proofs.YtjcgnbmpnaapdaaDoor
