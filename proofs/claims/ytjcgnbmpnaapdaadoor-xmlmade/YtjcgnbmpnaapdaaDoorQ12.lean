/- The contracts of outside and read. -/
import Derived.Test.YtjcgnbmpnaapdaaDoorQ11
namespace Go.Proofs.YtjcgnbmpnaapdaaDoor
open Go.RowKit
set_option linter.unusedVariables false

set_option maxHeartbeats 3200000 in
theorem out_s {B P : Nat} {w : World} {v : PV} {l : Bs} {L : Lm} {s : S} (h : Full B P w v l L s) (hrd : s.ready = []) (hP : P ≠ 0) (ht : Tab w) :
    Calls Tryd.prog 39 #[pp P] w (Rd B P w v l L (outS l L s)) := by
  obtain ⟨X, hX⟩ : ∃ X, X = outS l L s := ⟨_, rfl⟩
  rw [← hX]
  have HX : Hid (X = outS l L s) := hX
  clear hX
  have HF0 : Hid _ := And.intro h (And.intro (Fr.refl P w v) (show Rq v v from rfl))
  have HT : Hid _ := ht
  have HRD : Hid _ := hrd
  have hT := h.bT
  have hT' : 0 ≤ v.t ∧ v.t ≤ 65536 := by rw [h.lt']; omega
  have HLT : Hid _ := h.lt'
  have HND : Hid (v.nodes = s.nodes) := h.nd
  have hkl : s.k ≤ l.length := h.inn.kl
  clear h ht hrd
  rcases hb : blanksS l s.k with ⟨gap, k1⟩ | ⟨p, er⟩
  · have HB : Hid _ := hb
    have hk1 : k1 ≤ l.length := ((M.blanks_gd hkl).use hb).2
    have HX0 : Hid (X = if k1 = l.length ∧ 0 < s.nodes then .go { s with k := k1, over := true } else (signS l 60 k1).q fun _ k2 => (peekS l k2).q fun r _ => if r = 63 then (instS l L.T k2).q fun _ k' => .go { s with k := k' } else if r = 33 then (noteS l k1 (k2 + ln l k2)).q fun _ k' => .go { s with k := k' } else if r = 47 then .bad k1 2 else
      if 0 < s.nodes then .bad k1 2 else tagS l L s k1 k2) := by rw [HX.out, outS, hb]; exact rfl
    clear hb HX
    by_cases hov : k1 = l.length ∧ 0 < s.nodes
    · have HC : Hid (X = .go { s with k := k1, over := true }) := by rw [HX0.out, if_pos hov]; exact rfl
      obtain ⟨he, hn⟩ := hov
      have hed : (k1 == l.length) = true := by simp [he]
      clear he
      go_enter Tryd.func39, Tryd.ntmps39
      go_wp2_with fail
      refine (scan_ok (blanks_s HF0.out.1.inn) HB.out).mono ?_; rintro e w1 ⟨rfl, hg1, hi1⟩; have c10 : w1.cell? ⟨P, 10, none⟩ = some (.int .i64 s.nodes) := (hi1.ps.cell 10).trans (by rw [← HND.out]; exact rfl); have c1 := hi1.rd; have c17 := hi1.ps.cell 17; have f17 := hi1.ps.froz 17; have HF1 : Hid _ := And.intro (HF0.out.1.scan hg1 hi1) (And.intro (Fr.scan (v := v) (k := (k1 : Int)) hg1) (show Rq ({ v with k := (k1 : Int) } : PV) v from rfl)); clear hg1 hi1
      go_wp2_with fail
      refine (ended_t HF1.out.1.inn).mono ?_; rintro e w2 ⟨rfl, m2, rfl⟩; have HF2 : Hid _ := And.intro (HF1.out.1.drewN m2) (And.intro (HF1.out.2.1.drewN m2) HF1.out.2.2)
      go_wp2_with fail
      go_end0
      rw [HC.out]
      exact ⟨rfl, _, HF2.out.1.overv.1, HF2.out.2.1.trans HF2.out.1.overv.2⟩
    have HX1 : Hid (X = (signS l 60 k1).q fun _ k2 => (peekS l k2).q fun r _ => if r = 63 then (instS l L.T k2).q fun _ k' => .go { s with k := k' } else if r = 33 then (noteS l k1 (k2 + ln l k2)).q fun _ k' => .go { s with k := k' } else if r = 47 then .bad k1 2 else if 0 < s.nodes then .bad k1 2 else tagS l L s k1 k2) := by rw [HX0.out, if_neg hov]; exact rfl
    clear HX0
    have hcs : (k1 == l.length) = false ∨ ((k1 == l.length) = true ∧ ¬ 0 < s.nodes) := by
      by_cases e : k1 = l.length
      · right; exact ⟨by simp [e], fun x => hov ⟨e, x⟩⟩
      · left; simp [e]
    clear hov
    rcases hs : signS l 60 k1 with ⟨_, k2⟩ | ⟨p, er⟩
    · have HS : Hid _ := hs
      have hk2 : k2 ≤ l.length := ((M.sign_gd hk1).use hs).2
      have HX2 : Hid (X = (peekS l k2).q fun r _ => if r = 63 then (instS l L.T k2).q fun _ k' => .go { s with k := k' } else if r = 33 then (noteS l k1 (k2 + ln l k2)).q fun _ k' => .go { s with k := k' } else if r = 47 then .bad k1 2 else if 0 < s.nodes then .bad k1 2 else tagS l L s k1 k2) := by rw [HX1.out, hs]; exact rfl
      clear hs HX1
      cases hok : okl l k2
      · have HC : Hid (X = .bad k2 2) := by rw [HX2.out, peekS_f hok]; exact rfl
        rcases hcs with hed | ⟨hed, hn0⟩
        all_goals
          go_enter Tryd.func39, Tryd.ntmps39
          go_wp2_with fail
          refine (scan_ok (blanks_s HF0.out.1.inn) HB.out).mono ?_; rintro e w1 ⟨rfl, hg1, hi1⟩; have c10 : w1.cell? ⟨P, 10, none⟩ = some (.int .i64 s.nodes) := (hi1.ps.cell 10).trans (by rw [← HND.out]; exact rfl); have c1 := hi1.rd; have c17 := hi1.ps.cell 17; have f17 := hi1.ps.froz 17; have HF1 : Hid _ := And.intro (HF0.out.1.scan hg1 hi1) (And.intro (Fr.scan (v := v) (k := (k1 : Int)) hg1) (show Rq ({ v with k := (k1 : Int) } : PV) v from rfl)); clear hg1 hi1
          go_wp2_with fail
          refine (ended_t HF1.out.1.inn).mono ?_; rintro e w2 ⟨rfl, m2, rfl⟩; have HF2 : Hid _ := And.intro (HF1.out.1.drewN m2) (And.intro (HF1.out.2.1.drewN m2) HF1.out.2.2)
          go_wp2_with fail
          refine (scan_ok (sign_s 60 HF2.out.1.inn) HS.out).mono ?_; rintro e w3 ⟨rfl, hg3, hi3⟩; have c10c : w3.cell? ⟨P, 10, none⟩ = some (.int .i64 s.nodes) := (hi3.ps.cell 10).trans (by rw [← HND.out]; exact rfl); have HF3 : Hid _ := And.intro (HF2.out.1.scan hg3 hi3) (And.intro (HF2.out.2.1.trans (Fr.scan (k := (k2 : Int)) hg3)) HF2.out.2.2); clear hg3 hi3
          go_wp2_with fail
          refine (peek_gf HF3.out.1.inn hok).mono ?_; rintro e w4 ⟨rfl, hg4, hi4⟩
          go_wp2_with fail
          refine ⟨rfl, ?_⟩
          rw [HC.out]
          exact ⟨rfl, _, hi4.ps, HF3.out.2.2, HF3.out.2.1.trans (Fr.scan hg4)⟩
      by_cases h63 : lt l k2 = 63
      · have h63b : (lt l k2 == 63) = true := by simp [h63]
        rcases hcs with hed | ⟨hed, hn0⟩
        all_goals
          rcases hY : instS l v.t k2 with ⟨_, k9⟩ | ⟨p, er⟩
          · have HC : Hid (X = .go { s with k := k9 }) := by rw [HX2.out, peekS_t hok]; show (if lt l k2 = 63 then _ else _ : Q) = _; rw [if_pos h63, ← HLT.out]; rw [hY]; exact rfl
            have HY : Hid _ := hY
            clear hY
            go_enter Tryd.func39, Tryd.ntmps39
            go_wp2_with fail
            refine (scan_ok (blanks_s HF0.out.1.inn) HB.out).mono ?_; rintro e w1 ⟨rfl, hg1, hi1⟩; have c10 : w1.cell? ⟨P, 10, none⟩ = some (.int .i64 s.nodes) := (hi1.ps.cell 10).trans (by rw [← HND.out]; exact rfl); have c1 := hi1.rd; have c17 := hi1.ps.cell 17; have f17 := hi1.ps.froz 17; have HF1 : Hid _ := And.intro (HF0.out.1.scan hg1 hi1) (And.intro (Fr.scan (v := v) (k := (k1 : Int)) hg1) (show Rq ({ v with k := (k1 : Int) } : PV) v from rfl)); clear hg1 hi1
            go_wp2_with fail
            refine (ended_t HF1.out.1.inn).mono ?_; rintro e w2 ⟨rfl, m2, rfl⟩; have HF2 : Hid _ := And.intro (HF1.out.1.drewN m2) (And.intro (HF1.out.2.1.drewN m2) HF1.out.2.2)
            go_wp2_with fail
            refine (scan_ok (sign_s 60 HF2.out.1.inn) HS.out).mono ?_; rintro e w3 ⟨rfl, hg3, hi3⟩; have c10c : w3.cell? ⟨P, 10, none⟩ = some (.int .i64 s.nodes) := (hi3.ps.cell 10).trans (by rw [← HND.out]; exact rfl); have HF3 : Hid _ := And.intro (HF2.out.1.scan hg3 hi3) (And.intro (HF2.out.2.1.trans (Fr.scan (k := (k2 : Int)) hg3)) HF2.out.2.2); clear hg3 hi3
            go_wp2_with fail
            refine (peek_g HF3.out.1.inn hok).mono ?_; rintro e w4 ⟨rfl, hg4, hi4⟩; have HF4 : Hid _ := And.intro (HF3.out.1.scan hg4 (In.self hi4)) (And.intro (HF3.out.2.1.trans (Fr.scan (k := (k2 : Int)) hg4)) HF3.out.2.2); clear hg4 hi4
            go_wp2_with fail
            refine (scan_ok (inst_s HF4.out.1.inn hT' hP (HT.out.fr HF0.out.1 hP HF4.out.2.1)) HY.out).mono ?_; rintro e w9 ⟨rfl, hg9, hi9⟩; have HF9 : Hid _ := And.intro (HF4.out.1.scan hg9 hi9) (And.intro (HF4.out.2.1.trans (Fr.scan (k := (k9 : Int)) hg9)) trivial); clear hg9 hi9
            go_wp2_with fail
            go_end0
            rw [HC.out]
            exact ⟨rfl, _, HF9.out.1, HF9.out.2.1⟩
          · have HC : Hid (X = .bad p er) := by rw [HX2.out, peekS_t hok]; show (if lt l k2 = 63 then _ else _ : Q) = _; rw [if_pos h63, ← HLT.out]; rw [hY]; exact rfl
            have HY : Hid _ := hY
            clear hY
            go_enter Tryd.func39, Tryd.ntmps39
            go_wp2_with fail
            refine (scan_ok (blanks_s HF0.out.1.inn) HB.out).mono ?_; rintro e w1 ⟨rfl, hg1, hi1⟩; have c10 : w1.cell? ⟨P, 10, none⟩ = some (.int .i64 s.nodes) := (hi1.ps.cell 10).trans (by rw [← HND.out]; exact rfl); have c1 := hi1.rd; have c17 := hi1.ps.cell 17; have f17 := hi1.ps.froz 17; have HF1 : Hid _ := And.intro (HF0.out.1.scan hg1 hi1) (And.intro (Fr.scan (v := v) (k := (k1 : Int)) hg1) (show Rq ({ v with k := (k1 : Int) } : PV) v from rfl)); clear hg1 hi1
            go_wp2_with fail
            refine (ended_t HF1.out.1.inn).mono ?_; rintro e w2 ⟨rfl, m2, rfl⟩; have HF2 : Hid _ := And.intro (HF1.out.1.drewN m2) (And.intro (HF1.out.2.1.drewN m2) HF1.out.2.2)
            go_wp2_with fail
            refine (scan_ok (sign_s 60 HF2.out.1.inn) HS.out).mono ?_; rintro e w3 ⟨rfl, hg3, hi3⟩; have c10c : w3.cell? ⟨P, 10, none⟩ = some (.int .i64 s.nodes) := (hi3.ps.cell 10).trans (by rw [← HND.out]; exact rfl); have HF3 : Hid _ := And.intro (HF2.out.1.scan hg3 hi3) (And.intro (HF2.out.2.1.trans (Fr.scan (k := (k2 : Int)) hg3)) HF2.out.2.2); clear hg3 hi3
            go_wp2_with fail
            refine (peek_g HF3.out.1.inn hok).mono ?_; rintro e w4 ⟨rfl, hg4, hi4⟩; have HF4 : Hid _ := And.intro (HF3.out.1.scan hg4 (In.self hi4)) (And.intro (HF3.out.2.1.trans (Fr.scan (k := (k2 : Int)) hg4)) HF3.out.2.2); clear hg4 hi4
            go_wp2_with fail
            refine (scan_bad (inst_s HF4.out.1.inn hT' hP (HT.out.fr HF0.out.1 hP HF4.out.2.1)) HY.out).mono ?_; rintro e w9 ⟨rfl, hg9, kk, hp⟩
            go_wp2_with fail
            refine ⟨rfl, ?_⟩
            rw [HC.out]
            exact ⟨rfl, _, hp, HF4.out.2.2, HF4.out.2.1.trans (Fr.scan hg9)⟩
      have h63b : (lt l k2 == 63) = false := by simp [h63]
      by_cases h33 : lt l k2 = 33
      · have h33b : (lt l k2 == 33) = true := by simp [h33]
        rcases hcs with hed | ⟨hed, hn0⟩
        all_goals
          rcases hY : noteS l k1 (k2 + ln l k2) with ⟨_, k9⟩ | ⟨p, er⟩
          · have HC : Hid (X = .go { s with k := k9 }) := by rw [HX2.out, peekS_t hok]; show (if lt l k2 = 63 then _ else _ : Q) = _; rw [if_neg h63, if_pos h33]; rw [hY]; exact rfl
            have HY : Hid _ := hY
            clear hY
            go_enter Tryd.func39, Tryd.ntmps39
            go_wp2_with fail
            refine (scan_ok (blanks_s HF0.out.1.inn) HB.out).mono ?_; rintro e w1 ⟨rfl, hg1, hi1⟩; have c10 : w1.cell? ⟨P, 10, none⟩ = some (.int .i64 s.nodes) := (hi1.ps.cell 10).trans (by rw [← HND.out]; exact rfl); have c1 := hi1.rd; have c17 := hi1.ps.cell 17; have f17 := hi1.ps.froz 17; have HF1 : Hid _ := And.intro (HF0.out.1.scan hg1 hi1) (And.intro (Fr.scan (v := v) (k := (k1 : Int)) hg1) (show Rq ({ v with k := (k1 : Int) } : PV) v from rfl)); clear hg1 hi1
            go_wp2_with fail
            refine (ended_t HF1.out.1.inn).mono ?_; rintro e w2 ⟨rfl, m2, rfl⟩; have HF2 : Hid _ := And.intro (HF1.out.1.drewN m2) (And.intro (HF1.out.2.1.drewN m2) HF1.out.2.2)
            go_wp2_with fail
            refine (scan_ok (sign_s 60 HF2.out.1.inn) HS.out).mono ?_; rintro e w3 ⟨rfl, hg3, hi3⟩; have c10c : w3.cell? ⟨P, 10, none⟩ = some (.int .i64 s.nodes) := (hi3.ps.cell 10).trans (by rw [← HND.out]; exact rfl); have HF3 : Hid _ := And.intro (HF2.out.1.scan hg3 hi3) (And.intro (HF2.out.2.1.trans (Fr.scan (k := (k2 : Int)) hg3)) HF2.out.2.2); clear hg3 hi3
            go_wp2_with fail
            refine (peek_g HF3.out.1.inn hok).mono ?_; rintro e w4 ⟨rfl, hg4, hi4⟩; have HF4 : Hid _ := And.intro (HF3.out.1.scan hg4 (In.self hi4)) (And.intro (HF3.out.2.1.trans (Fr.scan (k := (k2 : Int)) hg4)) HF3.out.2.2); clear hg4 hi4
            go_wp2_with fail
            refine (take_t HF4.out.1.inn hok).mono ?_; rintro e w5 ⟨rfl, hg5, hi5⟩; have HF5 : Hid _ := And.intro (HF4.out.1.scan hg5 hi5) (And.intro (HF4.out.2.1.trans (Fr.scan (k := (((k2 + ln l (k2)) : Nat) : Int)) hg5)) HF4.out.2.2); clear hg5 hi5
            go_wp2_with fail
            refine (scan_ok (note_s k1 HF5.out.1.inn) HY.out).mono ?_; rintro e w9 ⟨rfl, hg9, hi9⟩; have HF9 : Hid _ := And.intro (HF5.out.1.scan hg9 hi9) (And.intro (HF5.out.2.1.trans (Fr.scan (k := (k9 : Int)) hg9)) trivial); clear hg9 hi9
            go_wp2_with fail
            go_end0
            rw [HC.out]
            exact ⟨rfl, _, HF9.out.1, HF9.out.2.1⟩
          · have HC : Hid (X = .bad p er) := by rw [HX2.out, peekS_t hok]; show (if lt l k2 = 63 then _ else _ : Q) = _; rw [if_neg h63, if_pos h33]; rw [hY]; exact rfl
            have HY : Hid _ := hY
            clear hY
            go_enter Tryd.func39, Tryd.ntmps39
            go_wp2_with fail
            refine (scan_ok (blanks_s HF0.out.1.inn) HB.out).mono ?_; rintro e w1 ⟨rfl, hg1, hi1⟩; have c10 : w1.cell? ⟨P, 10, none⟩ = some (.int .i64 s.nodes) := (hi1.ps.cell 10).trans (by rw [← HND.out]; exact rfl); have c1 := hi1.rd; have c17 := hi1.ps.cell 17; have f17 := hi1.ps.froz 17; have HF1 : Hid _ := And.intro (HF0.out.1.scan hg1 hi1) (And.intro (Fr.scan (v := v) (k := (k1 : Int)) hg1) (show Rq ({ v with k := (k1 : Int) } : PV) v from rfl)); clear hg1 hi1
            go_wp2_with fail
            refine (ended_t HF1.out.1.inn).mono ?_; rintro e w2 ⟨rfl, m2, rfl⟩; have HF2 : Hid _ := And.intro (HF1.out.1.drewN m2) (And.intro (HF1.out.2.1.drewN m2) HF1.out.2.2)
            go_wp2_with fail
            refine (scan_ok (sign_s 60 HF2.out.1.inn) HS.out).mono ?_; rintro e w3 ⟨rfl, hg3, hi3⟩; have c10c : w3.cell? ⟨P, 10, none⟩ = some (.int .i64 s.nodes) := (hi3.ps.cell 10).trans (by rw [← HND.out]; exact rfl); have HF3 : Hid _ := And.intro (HF2.out.1.scan hg3 hi3) (And.intro (HF2.out.2.1.trans (Fr.scan (k := (k2 : Int)) hg3)) HF2.out.2.2); clear hg3 hi3
            go_wp2_with fail
            refine (peek_g HF3.out.1.inn hok).mono ?_; rintro e w4 ⟨rfl, hg4, hi4⟩; have HF4 : Hid _ := And.intro (HF3.out.1.scan hg4 (In.self hi4)) (And.intro (HF3.out.2.1.trans (Fr.scan (k := (k2 : Int)) hg4)) HF3.out.2.2); clear hg4 hi4
            go_wp2_with fail
            refine (take_t HF4.out.1.inn hok).mono ?_; rintro e w5 ⟨rfl, hg5, hi5⟩; have HF5 : Hid _ := And.intro (HF4.out.1.scan hg5 hi5) (And.intro (HF4.out.2.1.trans (Fr.scan (k := (((k2 + ln l (k2)) : Nat) : Int)) hg5)) HF4.out.2.2); clear hg5 hi5
            go_wp2_with fail
            refine (scan_bad (note_s k1 HF5.out.1.inn) HY.out).mono ?_; rintro e w9 ⟨rfl, hg9, kk, hp⟩
            go_wp2_with fail
            refine ⟨rfl, ?_⟩
            rw [HC.out]
            exact ⟨rfl, _, hp, HF5.out.2.2, HF5.out.2.1.trans (Fr.scan hg9)⟩
      have h33b : (lt l k2 == 33) = false := by simp [h33]
      by_cases h47 : lt l k2 = 47
      · have HC : Hid (X = .bad k1 2) := by rw [HX2.out, peekS_t hok]; show (if lt l k2 = 63 then _ else _ : Q) = _; rw [if_neg h63, if_neg h33, if_pos h47]
        have h47b : (lt l k2 == 47) = true := by simp [h47]
        clear h63 h33 h47
        rcases hcs with hed | ⟨hed, hn0⟩
        all_goals
          go_enter Tryd.func39, Tryd.ntmps39
          go_wp2_with fail
          refine (scan_ok (blanks_s HF0.out.1.inn) HB.out).mono ?_; rintro e w1 ⟨rfl, hg1, hi1⟩; have c10 : w1.cell? ⟨P, 10, none⟩ = some (.int .i64 s.nodes) := (hi1.ps.cell 10).trans (by rw [← HND.out]; exact rfl); have c1 := hi1.rd; have c17 := hi1.ps.cell 17; have f17 := hi1.ps.froz 17; have HF1 : Hid _ := And.intro (HF0.out.1.scan hg1 hi1) (And.intro (Fr.scan (v := v) (k := (k1 : Int)) hg1) (show Rq ({ v with k := (k1 : Int) } : PV) v from rfl)); clear hg1 hi1
          go_wp2_with fail
          refine (ended_t HF1.out.1.inn).mono ?_; rintro e w2 ⟨rfl, m2, rfl⟩; have HF2 : Hid _ := And.intro (HF1.out.1.drewN m2) (And.intro (HF1.out.2.1.drewN m2) HF1.out.2.2)
          go_wp2_with fail
          refine (scan_ok (sign_s 60 HF2.out.1.inn) HS.out).mono ?_; rintro e w3 ⟨rfl, hg3, hi3⟩; have c10c : w3.cell? ⟨P, 10, none⟩ = some (.int .i64 s.nodes) := (hi3.ps.cell 10).trans (by rw [← HND.out]; exact rfl); have HF3 : Hid _ := And.intro (HF2.out.1.scan hg3 hi3) (And.intro (HF2.out.2.1.trans (Fr.scan (k := (k2 : Int)) hg3)) HF2.out.2.2); clear hg3 hi3
          go_wp2_with fail
          refine (peek_g HF3.out.1.inn hok).mono ?_; rintro e w4 ⟨rfl, hg4, hi4⟩; have HF4 : Hid _ := And.intro (HF3.out.1.scan hg4 (In.self hi4)) (And.intro (HF3.out.2.1.trans (Fr.scan (k := (k2 : Int)) hg4)) HF3.out.2.2); clear hg4 hi4
          go_wp2_with fail
          refine (fail_any _ _ _).mono ?_; rintro e w6 ⟨rfl, rfl⟩
          go_wp2_with fail
          refine ⟨rfl, ?_⟩
          rw [HC.out]
          exact ⟨rfl, _, HF4.out.1.inn.ps, HF4.out.2.2, HF4.out.2.1⟩
      have h47b : (lt l k2 == 47) = false := by simp [h47]
      by_cases hnp : 0 < s.nodes
      · have HC : Hid (X = .bad k1 2) := by rw [HX2.out, peekS_t hok]; show (if lt l k2 = 63 then _ else _ : Q) = _; rw [if_neg h63, if_neg h33, if_neg h47, if_pos hnp]
        clear h63 h33 h47
        have PK4 : Hid True := trivial
        rcases hcs with hed | ⟨hed, hn0⟩
        · skip
          go_enter Tryd.func39, Tryd.ntmps39
          go_wp2_with fail
          refine (scan_ok (blanks_s HF0.out.1.inn) HB.out).mono ?_; rintro e w1 ⟨rfl, hg1, hi1⟩; have c10 : w1.cell? ⟨P, 10, none⟩ = some (.int .i64 s.nodes) := (hi1.ps.cell 10).trans (by rw [← HND.out]; exact rfl); have c1 := hi1.rd; have c17 := hi1.ps.cell 17; have f17 := hi1.ps.froz 17; have HF1 : Hid _ := And.intro (HF0.out.1.scan hg1 hi1) (And.intro (Fr.scan (v := v) (k := (k1 : Int)) hg1) (show Rq ({ v with k := (k1 : Int) } : PV) v from rfl)); clear hg1 hi1
          go_wp2_with fail
          refine (ended_t HF1.out.1.inn).mono ?_; rintro e w2 ⟨rfl, m2, rfl⟩; have HF2 : Hid _ := And.intro (HF1.out.1.drewN m2) (And.intro (HF1.out.2.1.drewN m2) HF1.out.2.2)
          go_wp2_with fail
          refine (scan_ok (sign_s 60 HF2.out.1.inn) HS.out).mono ?_; rintro e w3 ⟨rfl, hg3, hi3⟩; have c10c : w3.cell? ⟨P, 10, none⟩ = some (.int .i64 s.nodes) := (hi3.ps.cell 10).trans (by rw [← HND.out]; exact rfl); have HF3 : Hid _ := And.intro (HF2.out.1.scan hg3 hi3) (And.intro (HF2.out.2.1.trans (Fr.scan (k := (k2 : Int)) hg3)) HF2.out.2.2); clear hg3 hi3
          go_wp2_with fail
          refine (peek_g HF3.out.1.inn hok).mono ?_; rintro e w4 ⟨rfl, hg4, hi4⟩; have HF4 : Hid _ := And.intro (HF3.out.1.scan hg4 (In.self hi4)) (And.intro (HF3.out.2.1.trans (Fr.scan (k := (k2 : Int)) hg4)) HF3.out.2.2); clear hg4 hi4; have c10d : w4.cell? ⟨P, 10, none⟩ = some (.int .i64 s.nodes) := (HF4.out.1.inn.ps.cell 10).trans (by rw [← HND.out]; exact rfl)
          go_wp2_with fail
          refine (fail_any _ _ _).mono ?_; rintro e w6 ⟨rfl, rfl⟩
          go_wp2_with fail
          refine ⟨rfl, ?_⟩
          rw [HC.out]
          exact ⟨rfl, _, HF4.out.1.inn.ps, HF4.out.2.2, HF4.out.2.1⟩
        · exact absurd hnp hn0
      have hnp' : s.nodes ≤ 0 := by omega
      rcases hcs with hed | ⟨hed, hn0⟩
      all_goals
        rcases hY : tagS l L s k1 k2 with s9 | ⟨p, er⟩
        · have HC : Hid (X = .go s9) := by rw [HX2.out, peekS_t hok]; show (if lt l k2 = 63 then _ else _ : Q) = _; rw [if_neg h63, if_neg h33, if_neg h47, if_neg hnp]; exact hY
          have HY : Hid _ := hY
          clear hY
          go_enter Tryd.func39, Tryd.ntmps39
          go_wp2_with fail
          refine (scan_ok (blanks_s HF0.out.1.inn) HB.out).mono ?_; rintro e w1 ⟨rfl, hg1, hi1⟩; have c10 : w1.cell? ⟨P, 10, none⟩ = some (.int .i64 s.nodes) := (hi1.ps.cell 10).trans (by rw [← HND.out]; exact rfl); have c1 := hi1.rd; have c17 := hi1.ps.cell 17; have f17 := hi1.ps.froz 17; have HF1 : Hid _ := And.intro (HF0.out.1.scan hg1 hi1) (And.intro (Fr.scan (v := v) (k := (k1 : Int)) hg1) (show Rq ({ v with k := (k1 : Int) } : PV) v from rfl)); clear hg1 hi1
          go_wp2_with fail
          refine (ended_t HF1.out.1.inn).mono ?_; rintro e w2 ⟨rfl, m2, rfl⟩; have HF2 : Hid _ := And.intro (HF1.out.1.drewN m2) (And.intro (HF1.out.2.1.drewN m2) HF1.out.2.2)
          go_wp2_with fail
          refine (scan_ok (sign_s 60 HF2.out.1.inn) HS.out).mono ?_; rintro e w3 ⟨rfl, hg3, hi3⟩; have c10c : w3.cell? ⟨P, 10, none⟩ = some (.int .i64 s.nodes) := (hi3.ps.cell 10).trans (by rw [← HND.out]; exact rfl); have HF3 : Hid _ := And.intro (HF2.out.1.scan hg3 hi3) (And.intro (HF2.out.2.1.trans (Fr.scan (k := (k2 : Int)) hg3)) HF2.out.2.2); clear hg3 hi3
          go_wp2_with fail
          refine (peek_g HF3.out.1.inn hok).mono ?_; rintro e w4 ⟨rfl, hg4, hi4⟩; have HF4 : Hid _ := And.intro (HF3.out.1.scan hg4 (In.self hi4)) (And.intro (HF3.out.2.1.trans (Fr.scan (k := (k2 : Int)) hg4)) HF3.out.2.2); clear hg4 hi4; have c10d : w4.cell? ⟨P, 10, none⟩ = some (.int .i64 s.nodes) := (HF4.out.1.inn.ps.cell 10).trans (by rw [← HND.out]; exact rfl)
          go_wp2_with fail
          refine (rd_go (start_s k1 HF4.out.1 HRD.out) HY.out).mono ?_; rintro e w9 ⟨rfl, v9, F9, f9⟩; have HF9 : Hid _ := And.intro F9 (And.intro (HF4.out.2.1.trans f9) trivial); clear F9 f9
          go_wp2_with fail
          go_end0
          rw [HC.out]
          exact ⟨rfl, _, HF9.out.1, HF9.out.2.1⟩
        · have HC : Hid (X = .bad p er) := by rw [HX2.out, peekS_t hok]; show (if lt l k2 = 63 then _ else _ : Q) = _; rw [if_neg h63, if_neg h33, if_neg h47, if_neg hnp]; exact hY
          have HY : Hid _ := hY
          clear hY
          go_enter Tryd.func39, Tryd.ntmps39
          go_wp2_with fail
          refine (scan_ok (blanks_s HF0.out.1.inn) HB.out).mono ?_; rintro e w1 ⟨rfl, hg1, hi1⟩; have c10 : w1.cell? ⟨P, 10, none⟩ = some (.int .i64 s.nodes) := (hi1.ps.cell 10).trans (by rw [← HND.out]; exact rfl); have c1 := hi1.rd; have c17 := hi1.ps.cell 17; have f17 := hi1.ps.froz 17; have HF1 : Hid _ := And.intro (HF0.out.1.scan hg1 hi1) (And.intro (Fr.scan (v := v) (k := (k1 : Int)) hg1) (show Rq ({ v with k := (k1 : Int) } : PV) v from rfl)); clear hg1 hi1
          go_wp2_with fail
          refine (ended_t HF1.out.1.inn).mono ?_; rintro e w2 ⟨rfl, m2, rfl⟩; have HF2 : Hid _ := And.intro (HF1.out.1.drewN m2) (And.intro (HF1.out.2.1.drewN m2) HF1.out.2.2)
          go_wp2_with fail
          refine (scan_ok (sign_s 60 HF2.out.1.inn) HS.out).mono ?_; rintro e w3 ⟨rfl, hg3, hi3⟩; have c10c : w3.cell? ⟨P, 10, none⟩ = some (.int .i64 s.nodes) := (hi3.ps.cell 10).trans (by rw [← HND.out]; exact rfl); have HF3 : Hid _ := And.intro (HF2.out.1.scan hg3 hi3) (And.intro (HF2.out.2.1.trans (Fr.scan (k := (k2 : Int)) hg3)) HF2.out.2.2); clear hg3 hi3
          go_wp2_with fail
          refine (peek_g HF3.out.1.inn hok).mono ?_; rintro e w4 ⟨rfl, hg4, hi4⟩; have HF4 : Hid _ := And.intro (HF3.out.1.scan hg4 (In.self hi4)) (And.intro (HF3.out.2.1.trans (Fr.scan (k := (k2 : Int)) hg4)) HF3.out.2.2); clear hg4 hi4; have c10d : w4.cell? ⟨P, 10, none⟩ = some (.int .i64 s.nodes) := (HF4.out.1.inn.ps.cell 10).trans (by rw [← HND.out]; exact rfl)
          go_wp2_with fail
          refine (rd_bad (start_s k1 HF4.out.1 HRD.out) HY.out).mono ?_; rintro e w9 ⟨rfl, v9, hp, hr, f9⟩
          go_wp2_with fail
          refine ⟨rfl, ?_⟩
          rw [HC.out]
          exact ⟨rfl, _, hp, hr.trans HF4.out.2.2, HF4.out.2.1.trans f9⟩
    · have HC : Hid (X = .bad p er) := by rw [HX1.out, hs]; exact rfl
      have HS : Hid _ := hs
      clear hs
      rcases hcs with hed | ⟨hed, hn0⟩
      all_goals
        go_enter Tryd.func39, Tryd.ntmps39
        go_wp2_with fail
        refine (scan_ok (blanks_s HF0.out.1.inn) HB.out).mono ?_; rintro e w1 ⟨rfl, hg1, hi1⟩; have c10 : w1.cell? ⟨P, 10, none⟩ = some (.int .i64 s.nodes) := (hi1.ps.cell 10).trans (by rw [← HND.out]; exact rfl); have c1 := hi1.rd; have c17 := hi1.ps.cell 17; have f17 := hi1.ps.froz 17; have HF1 : Hid _ := And.intro (HF0.out.1.scan hg1 hi1) (And.intro (Fr.scan (v := v) (k := (k1 : Int)) hg1) (show Rq ({ v with k := (k1 : Int) } : PV) v from rfl)); clear hg1 hi1
        go_wp2_with fail
        refine (ended_t HF1.out.1.inn).mono ?_; rintro e w2 ⟨rfl, m2, rfl⟩; have HF2 : Hid _ := And.intro (HF1.out.1.drewN m2) (And.intro (HF1.out.2.1.drewN m2) HF1.out.2.2)
        go_wp2_with fail
        refine (scan_bad (sign_s 60 HF2.out.1.inn) HS.out).mono ?_; rintro e w3 ⟨rfl, hg3, kk, hp⟩
        go_wp2_with fail
        refine ⟨rfl, ?_⟩
        rw [HC.out]
        exact ⟨rfl, _, hp, HF2.out.2.2, HF2.out.2.1.trans (Fr.scan hg3)⟩
  · have HC : Hid (X = .bad p er) := by rw [HX.out, outS, hb]; exact rfl
    have HB : Hid _ := hb
    clear hb
    go_enter Tryd.func39, Tryd.ntmps39
    go_wp2_with fail
    refine (scan_bad (blanks_s HF0.out.1.inn) HB.out).mono ?_; rintro e w1 ⟨rfl, hg1, kk, hp⟩
    go_wp2_with fail
    refine ⟨rfl, ?_⟩
    rw [HC.out]
    exact ⟨rfl, _, hp, rfl, Fr.scan hg1⟩
set_option maxHeartbeats 3200000 in
theorem read_s {B P : Nat} {w : World} {v : PV} {l : Bs} {L : Lm} {s : S} (h : Full B P w v l L s) (hrd : s.ready = []) (hP : P ≠ 0) (ht : Tab w) :
    Calls Tryd.prog 31 #[pp P] w (Rd B P w v l L (readS l L s)) := by
  obtain ⟨X, hX⟩ : ∃ X, X = readS l L s := ⟨_, rfl⟩
  rw [← hX]
  have HX : Hid (X = readS l L s) := hX
  clear hX
  have HF0 : Hid _ := And.intro h (And.intro (Fr.refl P w v) (show Rq v v from rfl))
  have HT : Hid _ := ht
  have HRD : Hid _ := hrd
  have hll : l.length ≤ 65536 := h.inn.ll
  have hkl : s.k ≤ l.length := h.inn.kl
  have c1 := h.inn.rd
  have c2 : w.cell? ⟨P, 2, none⟩ = some (.bool false) := (h.inn.ps.cell 2).trans (by rw [← h.lg]; rfl)
  have c9 : w.cell? ⟨P, 9, none⟩ = some v.op := h.inn.ps.cell 9
  obtain ⟨oa, ocap, hov⟩ := h.op.len
  rw [hov] at c9
  have hDl := h.opl
  have hD := h.bD
  clear h ht hrd
  by_cases hop : 0 < s.op.length
  · have HX1 : Hid (X = contS l L s) := by rw [HX.out, readS, if_pos hop]; exact rfl
    have ho : s.op ≠ [] := List.length_pos_iff.1 hop
    rcases hY : contS l L s with s9 | ⟨p, er⟩
    · have HC : Hid (X = .go s9) := by rw [HX1.out]; exact hY
      have HY : Hid _ := hY
      clear hY
      go_enter Tryd.func31, Tryd.ntmps31
      go_wp2_with fail
      refine (rd_go (cont_s HF0.out.1 ho HRD.out hP HT.out) HY.out).mono ?_; rintro e w9 ⟨rfl, v9, F9, f9⟩; have HF9 : Hid _ := And.intro F9 (And.intro (HF0.out.2.1.trans f9) trivial); clear F9 f9
      go_wp2_with fail
      go_end0
      rw [HC.out]
      exact ⟨rfl, _, HF9.out.1, HF9.out.2.1⟩
    · have HC : Hid (X = .bad p er) := by rw [HX1.out]; exact hY
      have HY : Hid _ := hY
      clear hY
      go_enter Tryd.func31, Tryd.ntmps31
      go_wp2_with fail
      refine (rd_bad (cont_s HF0.out.1 ho HRD.out hP HT.out) HY.out).mono ?_; rintro e w9 ⟨rfl, v9, hp, hr, f9⟩
      go_wp2_with fail
      refine ⟨rfl, ?_⟩
      rw [HC.out]
      exact ⟨rfl, _, hp, hr.trans HF0.out.2.2, HF0.out.2.1.trans f9⟩
  have hop' : s.op.length = 0 := by omega
  have hop2 : ¬ (0 : Int) < (s.op.length : Int) := by omega
  rw [hop'] at c9
  by_cases hk0 : s.k = 0
  · rw [hk0] at c1
    cases hdc : isDecl l
    · have HX1 : Hid (X = outS l L s) := by rw [HX.out, readS, if_neg hop, if_neg (by rw [hdc]; simp)]; exact rfl
      clear hop
      rcases hY : outS l L s with s9 | ⟨p, er⟩
      · have HC : Hid (X = .go s9) := by rw [HX1.out]; exact hY
        have HY : Hid _ := hY
        clear hY
        go_enter Tryd.func31, Tryd.ntmps31
        go_wp2_with fail
        refine (declared_any HF0.out.1.inn).mono ?_; rw [hdc]; rintro e w1 ⟨rfl, hb1⟩; have HF1 : Hid _ := And.intro (HF0.out.1.below hb1).1 (And.intro (HF0.out.1.below hb1).2 HF0.out.2.2); clear hb1
        go_wp2_with fail
        refine (rd_go (out_s HF1.out.1 HRD.out hP (HT.out.fr HF0.out.1 hP HF1.out.2.1)) HY.out).mono ?_; rintro e w9 ⟨rfl, v9, F9, f9⟩; have HF9 : Hid _ := And.intro F9 (And.intro (HF1.out.2.1.trans f9) trivial); clear F9 f9
        go_wp2_with fail
        go_end0
        rw [HC.out]
        exact ⟨rfl, _, HF9.out.1, HF9.out.2.1⟩
      · have HC : Hid (X = .bad p er) := by rw [HX1.out]; exact hY
        have HY : Hid _ := hY
        clear hY
        go_enter Tryd.func31, Tryd.ntmps31
        go_wp2_with fail
        refine (declared_any HF0.out.1.inn).mono ?_; rw [hdc]; rintro e w1 ⟨rfl, hb1⟩; have HF1 : Hid _ := And.intro (HF0.out.1.below hb1).1 (And.intro (HF0.out.1.below hb1).2 HF0.out.2.2); clear hb1
        go_wp2_with fail
        refine (rd_bad (out_s HF1.out.1 HRD.out hP (HT.out.fr HF0.out.1 hP HF1.out.2.1)) HY.out).mono ?_; rintro e w9 ⟨rfl, v9, hp, hr, f9⟩
        go_wp2_with fail
        refine ⟨rfl, ?_⟩
        rw [HC.out]
        exact ⟨rfl, _, hp, hr.trans HF1.out.2.2, HF1.out.2.1.trans f9⟩
    · have HX1 : Hid (X = (declS l).q fun _ k => outS l L { s with k := k }) := by rw [HX.out, readS, if_neg hop, if_pos ⟨hk0, hdc⟩]; exact rfl
      have h5 : 5 ≤ l.length := by unfold isDecl at hdc; simp at hdc; omega
      clear hop
      rcases hde : declS l with ⟨_, k5⟩ | ⟨p, er⟩
      · have HD : Hid _ := hde
        have HX2 : Hid (X = outS l L ({ s with k := k5 } : S)) := by rw [HX1.out, hde]; exact rfl
        clear hde
        rcases hY : outS l L ({ s with k := k5 } : S) with s9 | ⟨p, er⟩
        · have HC : Hid (X = .go s9) := by rw [HX2.out]; exact hY
          have HY : Hid _ := hY
          clear hY
          go_enter Tryd.func31, Tryd.ntmps31
          go_wp2_with fail
          refine (declared_any HF0.out.1.inn).mono ?_; rw [hdc]; rintro e w1 ⟨rfl, hb1⟩; have HF1 : Hid _ := And.intro (HF0.out.1.below hb1).1 (And.intro (HF0.out.1.below hb1).2 HF0.out.2.2); clear hb1
          go_wp2_with fail
          refine (scan_ok (decl_s (hk0 ▸ HF1.out.1.inn) h5) HD.out).mono ?_; rintro e w2 ⟨rfl, hg2, hi2⟩; have HF2 : Hid _ := And.intro (HF1.out.1.scan hg2 hi2) (And.intro (HF1.out.2.1.trans (Fr.scan (k := (k5 : Int)) hg2)) HF1.out.2.2); clear hg2 hi2
          go_wp2_with fail
          refine (rd_go (out_s HF2.out.1 HRD.out hP (HT.out.fr HF0.out.1 hP HF2.out.2.1)) HY.out).mono ?_; rintro e w9 ⟨rfl, v9, F9, f9⟩; have HF9 : Hid _ := And.intro F9 (And.intro (HF2.out.2.1.trans f9) trivial); clear F9 f9
          go_wp2_with fail
          go_end0
          rw [HC.out]
          exact ⟨rfl, _, HF9.out.1, HF9.out.2.1⟩
        · have HC : Hid (X = .bad p er) := by rw [HX2.out]; exact hY
          have HY : Hid _ := hY
          clear hY
          go_enter Tryd.func31, Tryd.ntmps31
          go_wp2_with fail
          refine (declared_any HF0.out.1.inn).mono ?_; rw [hdc]; rintro e w1 ⟨rfl, hb1⟩; have HF1 : Hid _ := And.intro (HF0.out.1.below hb1).1 (And.intro (HF0.out.1.below hb1).2 HF0.out.2.2); clear hb1
          go_wp2_with fail
          refine (scan_ok (decl_s (hk0 ▸ HF1.out.1.inn) h5) HD.out).mono ?_; rintro e w2 ⟨rfl, hg2, hi2⟩; have HF2 : Hid _ := And.intro (HF1.out.1.scan hg2 hi2) (And.intro (HF1.out.2.1.trans (Fr.scan (k := (k5 : Int)) hg2)) HF1.out.2.2); clear hg2 hi2
          go_wp2_with fail
          refine (rd_bad (out_s HF2.out.1 HRD.out hP (HT.out.fr HF0.out.1 hP HF2.out.2.1)) HY.out).mono ?_; rintro e w9 ⟨rfl, v9, hp, hr, f9⟩
          go_wp2_with fail
          refine ⟨rfl, ?_⟩
          rw [HC.out]
          exact ⟨rfl, _, hp, hr.trans HF2.out.2.2, HF2.out.2.1.trans f9⟩
      · have HC : Hid (X = .bad p er) := by rw [HX1.out, hde]; exact rfl
        have HD : Hid _ := hde
        clear hde
        go_enter Tryd.func31, Tryd.ntmps31
        go_wp2_with fail
        refine (declared_any HF0.out.1.inn).mono ?_; rw [hdc]; rintro e w1 ⟨rfl, hb1⟩; have HF1 : Hid _ := And.intro (HF0.out.1.below hb1).1 (And.intro (HF0.out.1.below hb1).2 HF0.out.2.2); clear hb1
        go_wp2_with fail
        refine (scan_bad (decl_s (hk0 ▸ HF1.out.1.inn) h5) HD.out).mono ?_; rintro e w2 ⟨rfl, hg2, kk, hp⟩
        go_wp2_with fail
        refine ⟨rfl, ?_⟩
        rw [HC.out]
        exact ⟨rfl, _, hp, HF1.out.2.2, HF1.out.2.1.trans (Fr.scan hg2)⟩
  have HX1 : Hid (X = outS l L s) := by rw [HX.out, readS, if_neg hop, if_neg (fun x => hk0 x.1)]; exact rfl
  have hk0b : ((s.k : Int) == 0) = false := beq_eq_false_iff_ne.2 (by omega)
  clear hop hk0
  rcases hY : outS l L s with s9 | ⟨p, er⟩
  · have HC : Hid (X = .go s9) := by rw [HX1.out]; exact hY
    have HY : Hid _ := hY
    clear hY
    go_enter Tryd.func31, Tryd.ntmps31
    go_wp2_with fail
    refine (rd_go (out_s HF0.out.1 HRD.out hP HT.out) HY.out).mono ?_; rintro e w9 ⟨rfl, v9, F9, f9⟩; have HF9 : Hid _ := And.intro F9 (And.intro (HF0.out.2.1.trans f9) trivial); clear F9 f9
    go_wp2_with fail
    go_end0
    rw [HC.out]
    exact ⟨rfl, _, HF9.out.1, HF9.out.2.1⟩
  · have HC : Hid (X = .bad p er) := by rw [HX1.out]; exact hY
    have HY : Hid _ := hY
    clear hY
    go_enter Tryd.func31, Tryd.ntmps31
    go_wp2_with fail
    refine (rd_bad (out_s HF0.out.1 HRD.out hP HT.out) HY.out).mono ?_; rintro e w9 ⟨rfl, v9, hp, hr, f9⟩
    go_wp2_with fail
    refine ⟨rfl, ?_⟩
    rw [HC.out]
    exact ⟨rfl, _, hp, hr.trans HF0.out.2.2, HF0.out.2.1.trans f9⟩
end Go.Proofs.YtjcgnbmpnaapdaaDoor
