/- The contracts of markup, content, outside, read. -/
import Derived.Test.YtjcgnbmpnaapdaaDoorQ9
namespace Go.Proofs.YtjcgnbmpnaapdaaDoor
open Go.RowKit
set_option linter.unusedVariables false

/-- The row of events is the same. -/
def Rq (a b : PV) : Prop := a.ready = b.ready
theorem rd_go {B P N : Nat} {args : Array Value} {w : World} {v : PV} {l : Bs} {L : Lm} {x : Q} {s' : S} (h : Calls Tryd.prog N args w (Rd B P w v l L x)) (hx : x = .go s') :
    Calls Tryd.prog N args w fun e w' => e = .returned (.tuple #[]) ∧ ∃ v', Full B P w' v' l L s' ∧ Fr P w w' v v' := by subst hx; exact h
theorem rd_bad {B P N : Nat} {args : Array Value} {w : World} {v : PV} {l : Bs} {L : Lm} {x : Q} {p er : Int} (h : Calls Tryd.prog N args w (Rd B P w v l L x)) (hx : x = .bad p er) :
    Calls Tryd.prog N args w fun e w' => e = .panicked (flt p er) ∧ ∃ v', PS w' P v' ∧ v'.ready = v.ready ∧ Fr P w w' v v' := by subst hx; exact h
theorem cdS_k {l : Bs} {L : Lm} {s : S} {j lt0 k : Nat} : cdS l L { s with k := j } lt0 k = cdS l L s lt0 k := by
  unfold cdS beginS
  cases h : s.begun <;> simp [h]
theorem Tab.fr {B P : Nat} {w w' : World} {v v' : PV} {l : Bs} {L : Lm} {s : S} (h : Tab w) (hF : Full B P w v l L s) (hP : P ≠ 0) (hf : Fr P w w' v v') : Tab w' := by
  have hB : 0 < B := by have := hF.pb; omega
  obtain ⟨xs, hr, _⟩ := hF.rd
  have h0 : 0 < w.heap.size := World.block_lt_of_cell? w _ h.a
  have e : w'.heap[0]? = w.heap[0]? := by
    refine hf.blk 0 h0 (fun e => hP e.symm) ?_ ?_ ?_
    · intro e; have := (hF.to.lt 0 e.symm).1; omega
    · intro e; have := (hr.lt 0 e.symm).1; omega
    · intro e; have := (hF.op.lt 0 e.symm).1; omega
  have k : ∀ {i v}, w.cell? ⟨0, i, none⟩ = some v → w'.cell? ⟨0, i, none⟩ = some v := fun {i v} hi => (World.cell?_of_block (a := ⟨0, i, none⟩) e).trans hi
  exact ⟨k h.a, k h.b, k h.c, k h.d, k h.e, k h.f⟩
set_option maxHeartbeats 3200000 in
theorem mark_s {B P : Nat} {w : World} {v : PV} {l : Bs} {L : Lm} {s : S} (lt0 : Nat) (h : Full B P w v l L s) (ho : s.op ≠ []) (hrd : s.ready = []) (hP : P ≠ 0) (ht : Tab w) :
    Calls Tryd.prog 42 #[pp P, .int .i64 lt0] w (Rd B P w v l L (markS l L s lt0 s.k)) := by
  obtain ⟨X, hX⟩ : ∃ X, X = markS l L s lt0 s.k := ⟨_, rfl⟩
  rw [← hX]
  have HX : Hid (X = markS l L s lt0 s.k) := hX
  clear hX
  have HF0 : Hid _ := And.intro h (And.intro (Fr.refl P w v) (show Rq v v from rfl))
  have HT : Hid _ := ht
  have HRD : Hid _ := hrd
  have hT := h.bT
  have hT' : 0 ≤ v.t ∧ v.t ≤ 65536 := by rw [h.lt']; omega
  have HLT : Hid _ := h.lt'
  have hkl : s.k ≤ l.length := h.inn.kl
  have hP' : some P ≠ some 0 := by simpa using hP
  clear h ht hrd
  cases hok : okl l s.k
  · have HC : Hid (X = .bad s.k 2) := by rw [HX.out, markS, peekS_f hok]; exact rfl
    go_enter Tryd.func42, Tryd.ntmps42
    go_wp2_with (first | (go_at_call 40; refine (peek_gf HF0.out.1.inn hok).mono ?_; rintro e w1 ⟨rfl, hg1, hi1⟩))
    refine ⟨rfl, ?_⟩
    rw [HC.out]
    exact ⟨rfl, _, hi1.ps, rfl, Fr.scan (k := v.k) hg1⟩
  by_cases h63 : lt l s.k = 63
  · skip
    rcases hY : instS l v.t s.k with ⟨_, k9⟩ | ⟨p, er⟩
    · have HC : Hid (X = .go { s with k := k9 }) := by rw [HX.out, markS, peekS_t hok]; show (if lt l s.k = 63 then _ else _ : Q) = _; rw [if_pos h63]; rw [← HLT.out]; rw [hY]; exact rfl
      have HY : Hid _ := hY
      clear hY
      go_enter Tryd.func42, Tryd.ntmps42
      go_wp2_with fail
      refine (peek_g HF0.out.1.inn hok).mono ?_; rintro e w1 ⟨rfl, hg1, hi1⟩; have HF1 : Hid _ := And.intro (HF0.out.1.scan hg1 (In.self hi1)) (And.intro (HF0.out.2.1.trans (Fr.scan (k := (s.k : Int)) hg1)) HF0.out.2.2); clear hg1 hi1
      go_wp2_with fail
      refine (scan_ok (inst_s HF1.out.1.inn hT' hP (HT.out.fr HF0.out.1 hP HF1.out.2.1)) HY.out).mono ?_; rintro e w9 ⟨rfl, hg9, hi9⟩; have HF9 : Hid _ := And.intro (HF1.out.1.scan hg9 hi9) (And.intro (HF1.out.2.1.trans (Fr.scan (k := (k9 : Int)) hg9)) trivial); clear hg9 hi9
      go_wp2_with fail
      go_end0
      rw [HC.out]
      exact ⟨rfl, _, HF9.out.1, HF9.out.2.1⟩
    · have HC : Hid (X = .bad p er) := by rw [HX.out, markS, peekS_t hok]; show (if lt l s.k = 63 then _ else _ : Q) = _; rw [if_pos h63]; rw [← HLT.out]; rw [hY]; exact rfl
      have HY : Hid _ := hY
      clear hY
      go_enter Tryd.func42, Tryd.ntmps42
      go_wp2_with fail
      refine (peek_g HF0.out.1.inn hok).mono ?_; rintro e w1 ⟨rfl, hg1, hi1⟩; have HF1 : Hid _ := And.intro (HF0.out.1.scan hg1 (In.self hi1)) (And.intro (HF0.out.2.1.trans (Fr.scan (k := (s.k : Int)) hg1)) HF0.out.2.2); clear hg1 hi1
      go_wp2_with fail
      refine (scan_bad (inst_s HF1.out.1.inn hT' hP (HT.out.fr HF0.out.1 hP HF1.out.2.1)) HY.out).mono ?_; rintro e w9 ⟨rfl, hg9, kk, hp⟩
      go_wp2_with fail
      refine ⟨rfl, ?_⟩
      rw [HC.out]
      exact ⟨rfl, _, hp, HF1.out.2.2, HF1.out.2.1.trans (Fr.scan hg9)⟩
  have h63b : (lt l s.k == 63) = false := by simp [h63]
  by_cases h33 : lt l s.k = 33
  · have h33b : (lt l s.k == 33) = true := by simp [h33]
    have hle := ln_le l s.k hkl
    have HX1 : Hid (X = bangS l L s lt0 (s.k + ln l s.k)) := by rw [HX.out, markS, peekS_t hok]; show (if lt l s.k = 63 then _ else _ : Q) = _; rw [if_neg h63, if_pos h33]
    clear h63 h33
    cases hok2 : okl l (s.k + ln l s.k)
    · have HC : Hid (X = .bad ((s.k + ln l s.k : Nat) : Int) 2) := by rw [HX1.out, bangS, peekS_f hok2]; exact rfl
      go_enter Tryd.func42, Tryd.ntmps42
      go_wp2_with fail
      refine (peek_g HF0.out.1.inn hok).mono ?_; rintro e w1 ⟨rfl, hg1, hi1⟩; have HF1 : Hid _ := And.intro (HF0.out.1.scan hg1 (In.self hi1)) (And.intro (HF0.out.2.1.trans (Fr.scan (k := (s.k : Int)) hg1)) HF0.out.2.2); clear hg1 hi1
      go_wp2_with fail
      refine (take_t HF1.out.1.inn hok).mono ?_; rintro e w2 ⟨rfl, hg2, hi2⟩; have HF2 : Hid _ := And.intro (HF1.out.1.scan hg2 hi2) (And.intro (HF1.out.2.1.trans (Fr.scan (k := (((s.k + ln l (s.k)) : Nat) : Int)) hg2)) HF1.out.2.2); clear hg2 hi2
      go_wp2_with fail
      refine (peek_gf HF2.out.1.inn hok2).mono ?_; rintro e w3 ⟨rfl, hg3, hi3⟩
      go_wp2_with fail
      refine ⟨rfl, ?_⟩
      rw [HC.out]
      exact ⟨rfl, _, hi3.ps, HF2.out.2.2, HF2.out.2.1.trans (Fr.scan hg3)⟩
    by_cases h91 : lt l (s.k + ln l s.k) = 91
    · have HX2 : Hid (X = cdS l L s lt0 (s.k + ln l s.k)) := by rw [HX1.out, bangS, peekS_t hok2]; show (if lt l (s.k + ln l s.k) = 91 then _ else _ : Q) = _; rw [if_pos h91]
      rcases hY : cdS l L ({ s with k := s.k + ln l s.k } : S) lt0 (s.k + ln l s.k) with s9 | ⟨p, er⟩
      · have HC : Hid (X = .go s9) := by rw [HX2.out, ← cdS_k (j := s.k + ln l s.k)]; exact hY
        have HY : Hid _ := hY
        clear hY
        go_enter Tryd.func42, Tryd.ntmps42
        go_wp2_with fail
        refine (peek_g HF0.out.1.inn hok).mono ?_; rintro e w1 ⟨rfl, hg1, hi1⟩; have HF1 : Hid _ := And.intro (HF0.out.1.scan hg1 (In.self hi1)) (And.intro (HF0.out.2.1.trans (Fr.scan (k := (s.k : Int)) hg1)) HF0.out.2.2); clear hg1 hi1
        go_wp2_with fail
        refine (take_t HF1.out.1.inn hok).mono ?_; rintro e w2 ⟨rfl, hg2, hi2⟩; have HF2 : Hid _ := And.intro (HF1.out.1.scan hg2 hi2) (And.intro (HF1.out.2.1.trans (Fr.scan (k := (((s.k + ln l (s.k)) : Nat) : Int)) hg2)) HF1.out.2.2); clear hg2 hi2
        go_wp2_with fail
        refine (peek_g HF2.out.1.inn hok2).mono ?_; rintro e w3 ⟨rfl, hg3, hi3⟩; have HF3 : Hid _ := And.intro (HF2.out.1.scan hg3 (In.self hi3)) (And.intro (HF2.out.2.1.trans (Fr.scan (k := ((s.k + ln l s.k : Nat) : Int)) hg3)) HF2.out.2.2); clear hg3 hi3
        go_wp2_with fail
        refine (rd_go (cdata_s lt0 HF3.out.1 HRD.out) HY.out).mono ?_; rintro e w9 ⟨rfl, v9, F9, f9⟩; have HF9 : Hid _ := And.intro F9 (And.intro (HF3.out.2.1.trans f9) trivial); clear F9 f9
        go_wp2_with fail
        go_end0
        rw [HC.out]
        exact ⟨rfl, _, HF9.out.1, HF9.out.2.1⟩
      · have HC : Hid (X = .bad p er) := by rw [HX2.out, ← cdS_k (j := s.k + ln l s.k)]; exact hY
        have HY : Hid _ := hY
        clear hY
        go_enter Tryd.func42, Tryd.ntmps42
        go_wp2_with fail
        refine (peek_g HF0.out.1.inn hok).mono ?_; rintro e w1 ⟨rfl, hg1, hi1⟩; have HF1 : Hid _ := And.intro (HF0.out.1.scan hg1 (In.self hi1)) (And.intro (HF0.out.2.1.trans (Fr.scan (k := (s.k : Int)) hg1)) HF0.out.2.2); clear hg1 hi1
        go_wp2_with fail
        refine (take_t HF1.out.1.inn hok).mono ?_; rintro e w2 ⟨rfl, hg2, hi2⟩; have HF2 : Hid _ := And.intro (HF1.out.1.scan hg2 hi2) (And.intro (HF1.out.2.1.trans (Fr.scan (k := (((s.k + ln l (s.k)) : Nat) : Int)) hg2)) HF1.out.2.2); clear hg2 hi2
        go_wp2_with fail
        refine (peek_g HF2.out.1.inn hok2).mono ?_; rintro e w3 ⟨rfl, hg3, hi3⟩; have HF3 : Hid _ := And.intro (HF2.out.1.scan hg3 (In.self hi3)) (And.intro (HF2.out.2.1.trans (Fr.scan (k := ((s.k + ln l s.k : Nat) : Int)) hg3)) HF2.out.2.2); clear hg3 hi3
        go_wp2_with fail
        refine (rd_bad (cdata_s lt0 HF3.out.1 HRD.out) HY.out).mono ?_; rintro e w9 ⟨rfl, v9, hp, hr, f9⟩
        go_wp2_with fail
        refine ⟨rfl, ?_⟩
        rw [HC.out]
        exact ⟨rfl, _, hp, hr.trans HF3.out.2.2, HF3.out.2.1.trans f9⟩
    · have h91b : (lt l (s.k + ln l s.k) == 91) = false := by simp [h91]
      have HX2 : Hid (X = (noteS l lt0 (s.k + ln l s.k)).q fun _ k' => .go { s with k := k' }) := by rw [HX1.out, bangS, peekS_t hok2]; show (if lt l (s.k + ln l s.k) = 91 then _ else _ : Q) = _; rw [if_neg h91]
      clear h91
      rcases hY : noteS l lt0 (s.k + ln l s.k) with ⟨_, k9⟩ | ⟨p, er⟩
      · have HC : Hid (X = .go { s with k := k9 }) := by rw [HX2.out]; rw [hY]; exact rfl
        have HY : Hid _ := hY
        clear hY
        go_enter Tryd.func42, Tryd.ntmps42
        go_wp2_with fail
        refine (peek_g HF0.out.1.inn hok).mono ?_; rintro e w1 ⟨rfl, hg1, hi1⟩; have HF1 : Hid _ := And.intro (HF0.out.1.scan hg1 (In.self hi1)) (And.intro (HF0.out.2.1.trans (Fr.scan (k := (s.k : Int)) hg1)) HF0.out.2.2); clear hg1 hi1
        go_wp2_with fail
        refine (take_t HF1.out.1.inn hok).mono ?_; rintro e w2 ⟨rfl, hg2, hi2⟩; have HF2 : Hid _ := And.intro (HF1.out.1.scan hg2 hi2) (And.intro (HF1.out.2.1.trans (Fr.scan (k := (((s.k + ln l (s.k)) : Nat) : Int)) hg2)) HF1.out.2.2); clear hg2 hi2
        go_wp2_with fail
        refine (peek_g HF2.out.1.inn hok2).mono ?_; rintro e w3 ⟨rfl, hg3, hi3⟩; have HF3 : Hid _ := And.intro (HF2.out.1.scan hg3 (In.self hi3)) (And.intro (HF2.out.2.1.trans (Fr.scan (k := ((s.k + ln l s.k : Nat) : Int)) hg3)) HF2.out.2.2); clear hg3 hi3
        go_wp2_with fail
        refine (scan_ok (note_s lt0 HF3.out.1.inn) HY.out).mono ?_; rintro e w9 ⟨rfl, hg9, hi9⟩; have HF9 : Hid _ := And.intro (HF3.out.1.scan hg9 hi9) (And.intro (HF3.out.2.1.trans (Fr.scan (k := (k9 : Int)) hg9)) trivial); clear hg9 hi9
        go_wp2_with fail
        go_end0
        rw [HC.out]
        exact ⟨rfl, _, HF9.out.1, HF9.out.2.1⟩
      · have HC : Hid (X = .bad p er) := by rw [HX2.out]; rw [hY]; exact rfl
        have HY : Hid _ := hY
        clear hY
        go_enter Tryd.func42, Tryd.ntmps42
        go_wp2_with fail
        refine (peek_g HF0.out.1.inn hok).mono ?_; rintro e w1 ⟨rfl, hg1, hi1⟩; have HF1 : Hid _ := And.intro (HF0.out.1.scan hg1 (In.self hi1)) (And.intro (HF0.out.2.1.trans (Fr.scan (k := (s.k : Int)) hg1)) HF0.out.2.2); clear hg1 hi1
        go_wp2_with fail
        refine (take_t HF1.out.1.inn hok).mono ?_; rintro e w2 ⟨rfl, hg2, hi2⟩; have HF2 : Hid _ := And.intro (HF1.out.1.scan hg2 hi2) (And.intro (HF1.out.2.1.trans (Fr.scan (k := (((s.k + ln l (s.k)) : Nat) : Int)) hg2)) HF1.out.2.2); clear hg2 hi2
        go_wp2_with fail
        refine (peek_g HF2.out.1.inn hok2).mono ?_; rintro e w3 ⟨rfl, hg3, hi3⟩; have HF3 : Hid _ := And.intro (HF2.out.1.scan hg3 (In.self hi3)) (And.intro (HF2.out.2.1.trans (Fr.scan (k := ((s.k + ln l s.k : Nat) : Int)) hg3)) HF2.out.2.2); clear hg3 hi3
        go_wp2_with fail
        refine (scan_bad (note_s lt0 HF3.out.1.inn) HY.out).mono ?_; rintro e w9 ⟨rfl, hg9, kk, hp⟩
        go_wp2_with fail
        refine ⟨rfl, ?_⟩
        rw [HC.out]
        exact ⟨rfl, _, hp, HF3.out.2.2, HF3.out.2.1.trans (Fr.scan hg9)⟩
  have h33b : (lt l s.k == 33) = false := by simp [h33]
  by_cases h47 : lt l s.k = 47
  · have h47b : (lt l s.k == 47) = true := by simp [h47]
    have HX1 : Hid (X = endS l L s lt0 (s.k + ln l s.k)) := by rw [HX.out, markS, peekS_t hok]; show (if lt l s.k = 63 then _ else _ : Q) = _; rw [if_neg h63, if_neg h33, if_pos h47]
    clear h63 h33 h47
    rcases hY : endS l L ({ s with k := s.k + ln l s.k } : S) lt0 (s.k + ln l s.k) with s9 | ⟨p, er⟩
    · have HC : Hid (X = .go s9) := by rw [HX1.out]; exact hY
      have HY : Hid _ := hY
      clear hY
      go_enter Tryd.func42, Tryd.ntmps42
      go_wp2_with fail
      refine (peek_g HF0.out.1.inn hok).mono ?_; rintro e w1 ⟨rfl, hg1, hi1⟩; have HF1 : Hid _ := And.intro (HF0.out.1.scan hg1 (In.self hi1)) (And.intro (HF0.out.2.1.trans (Fr.scan (k := (s.k : Int)) hg1)) HF0.out.2.2); clear hg1 hi1
      go_wp2_with fail
      refine (take_t HF1.out.1.inn hok).mono ?_; rintro e w2 ⟨rfl, hg2, hi2⟩; have HF2 : Hid _ := And.intro (HF1.out.1.scan hg2 hi2) (And.intro (HF1.out.2.1.trans (Fr.scan (k := (((s.k + ln l (s.k)) : Nat) : Int)) hg2)) HF1.out.2.2); clear hg2 hi2
      go_wp2_with fail
      refine (rd_go (end_s lt0 HF2.out.1 ho HRD.out) HY.out).mono ?_; rintro e w9 ⟨rfl, v9, F9, f9⟩; have HF9 : Hid _ := And.intro F9 (And.intro (HF2.out.2.1.trans f9) trivial); clear F9 f9
      go_wp2_with fail
      go_end0
      rw [HC.out]
      exact ⟨rfl, _, HF9.out.1, HF9.out.2.1⟩
    · have HC : Hid (X = .bad p er) := by rw [HX1.out]; exact hY
      have HY : Hid _ := hY
      clear hY
      go_enter Tryd.func42, Tryd.ntmps42
      go_wp2_with fail
      refine (peek_g HF0.out.1.inn hok).mono ?_; rintro e w1 ⟨rfl, hg1, hi1⟩; have HF1 : Hid _ := And.intro (HF0.out.1.scan hg1 (In.self hi1)) (And.intro (HF0.out.2.1.trans (Fr.scan (k := (s.k : Int)) hg1)) HF0.out.2.2); clear hg1 hi1
      go_wp2_with fail
      refine (take_t HF1.out.1.inn hok).mono ?_; rintro e w2 ⟨rfl, hg2, hi2⟩; have HF2 : Hid _ := And.intro (HF1.out.1.scan hg2 hi2) (And.intro (HF1.out.2.1.trans (Fr.scan (k := (((s.k + ln l (s.k)) : Nat) : Int)) hg2)) HF1.out.2.2); clear hg2 hi2
      go_wp2_with fail
      refine (rd_bad (end_s lt0 HF2.out.1 ho HRD.out) HY.out).mono ?_; rintro e w9 ⟨rfl, v9, hp, hr, f9⟩
      go_wp2_with fail
      refine ⟨rfl, ?_⟩
      rw [HC.out]
      exact ⟨rfl, _, hp, hr.trans HF2.out.2.2, HF2.out.2.1.trans f9⟩
  have h47b : (lt l s.k == 47) = false := by simp [h47]
  have HX1 : Hid (X = tagS l L s lt0 s.k) := by rw [HX.out, markS, peekS_t hok]; show (if lt l s.k = 63 then _ else _ : Q) = _; rw [if_neg h63, if_neg h33, if_neg h47]
  clear h63 h33 h47
  rcases hY : tagS l L s lt0 s.k with s9 | ⟨p, er⟩
  · have HC : Hid (X = .go s9) := by rw [HX1.out]; exact hY
    have HY : Hid _ := hY
    clear hY
    go_enter Tryd.func42, Tryd.ntmps42
    go_wp2_with fail
    refine (peek_g HF0.out.1.inn hok).mono ?_; rintro e w1 ⟨rfl, hg1, hi1⟩; have HF1 : Hid _ := And.intro (HF0.out.1.scan hg1 (In.self hi1)) (And.intro (HF0.out.2.1.trans (Fr.scan (k := (s.k : Int)) hg1)) HF0.out.2.2); clear hg1 hi1
    go_wp2_with fail
    refine (rd_go (start_s lt0 HF1.out.1 HRD.out) HY.out).mono ?_; rintro e w9 ⟨rfl, v9, F9, f9⟩; have HF9 : Hid _ := And.intro F9 (And.intro (HF1.out.2.1.trans f9) trivial); clear F9 f9
    go_wp2_with fail
    go_end0
    rw [HC.out]
    exact ⟨rfl, _, HF9.out.1, HF9.out.2.1⟩
  · have HC : Hid (X = .bad p er) := by rw [HX1.out]; exact hY
    have HY : Hid _ := hY
    clear hY
    go_enter Tryd.func42, Tryd.ntmps42
    go_wp2_with fail
    refine (peek_g HF0.out.1.inn hok).mono ?_; rintro e w1 ⟨rfl, hg1, hi1⟩; have HF1 : Hid _ := And.intro (HF0.out.1.scan hg1 (In.self hi1)) (And.intro (HF0.out.2.1.trans (Fr.scan (k := (s.k : Int)) hg1)) HF0.out.2.2); clear hg1 hi1
    go_wp2_with fail
    refine (rd_bad (start_s lt0 HF1.out.1 HRD.out) HY.out).mono ?_; rintro e w9 ⟨rfl, v9, hp, hr, f9⟩
    go_wp2_with fail
    refine ⟨rfl, ?_⟩
    rw [HC.out]
    exact ⟨rfl, _, hp, hr.trans HF1.out.2.2, HF1.out.2.1.trans f9⟩
end Go.Proofs.YtjcgnbmpnaapdaaDoor
