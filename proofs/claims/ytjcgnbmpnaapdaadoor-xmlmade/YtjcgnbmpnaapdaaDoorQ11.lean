/- The contract of content. -/
import Derived.Test.YtjcgnbmpnaapdaaDoorQ10
namespace Go.Proofs.YtjcgnbmpnaapdaaDoor
open Go.RowKit
set_option linter.unusedVariables false

theorem markS_k {l : Bs} {L : Lm} {s : S} {j lt0 k : Nat} : markS l L { s with k := j } lt0 k = markS l L s lt0 k := by
  unfold markS bangS
  rw [show (fun (r : Int) (x : Nat) => if r = 91 then cdS l L { s with k := j } lt0 (k + ln l k) else (noteS l lt0 (k + ln l k)).q fun _ k' => .go { s with k := k' }) = (fun (r : Int) (x : Nat) => if r = 91 then cdS l L s lt0 (k + ln l k) else (noteS l lt0 (k + ln l k)).q fun _ k' => .go { s with k := k' }) by funext r x; rw [cdS_k]]
  rfl
def sufB (l : Bs) (k : Nat) : Bool := decide (2 ≤ k ∧ l.getD (k - 1) 0 = 93 ∧ l.getD (k - 2) 0 = 93)
theorem bb_bd : Bd [93, 93] := by
  intro i
  match i with
  | 0 => decide
  | 1 => decide
  | n + 2 => simp
theorem sub2 {l : Bs} {i : Nat} (h : i + 2 ≤ l.length) : (sub l i (i + 2) == [93, 93]) = sufB l (i + 2) := by
  have e : sub l i (i + 2) = [l.getD i 0, l.getD (i + 1) 0] := by
    unfold sub
    rw [show i + 2 - i = 2 by omega, drop_at l i (by omega), drop_at l (i + 1) (by omega)]
    rfl
  rw [e]
  unfold sufB
  rw [Bool.eq_iff_iff, decide_eq_true_iff]
  simp
  constructor
  · rintro ⟨a, b⟩; exact ⟨b, a⟩
  · rintro ⟨a, b⟩; exact ⟨b, a⟩
set_option maxRecDepth 20000 in
theorem suf_any {w : World} {g cap k N : Nat} {l : Bs} (hb : Bts w (some ⟨g, 0, none⟩) l) (hk : k ≤ l.length) (hc : l.length ≤ cap) (hm : cap ≤ 2 ^ 63 - 1) (hN : Bts w (some ⟨N, 0, none⟩) [93, 93]) :
    Calls Tryd.prog 46 #[.slice (some ⟨g, 0, none⟩) k cap, .slice (some ⟨N, 0, none⟩) 2 2] w fun e w' => e = .returned (.bool (sufB l k)) ∧ w' = w := by
  by_cases h2 : 2 ≤ k
  · obtain ⟨i, rfl⟩ : ∃ i, k = i + 2 := ⟨k - 2, by omega⟩
    have hx1 := conv_sub (cap := cap) hb (Nat.le_add_right i 2) hk 0
    have hx2 := conv_bts (some ⟨N, 0, none⟩) 2 _ w hN (fun e => by cases e)
    rw [show i + 2 - i = 2 by omega] at hx1
    have hE : Hid (Calls Tryd.prog 68 #[.slice (some ⟨g, i, none⟩) 2 (cap - i), .slice (some ⟨N, 0, none⟩) 2 2] w fun e w' => e = .returned (.bool (sub l i (i + 2) == [93, 93])) ∧ w' = w) := equal_any (w := w) hx1 hx2 (sub_bd hb.1) bb_bd
    rw [sub2 hk] at hE
    generalize sufB l (i + 2) = z at *
    clear hx1 hx2
    have hci : ¬ cap = i := by omega
    have e2 : ((i + 2 : Nat) : Int) - 2 = (i : Int) := by omega
    go_enter Tryd.func46, Tryd.ntmps46
    go_wp2_with (first | (go_at_call 68; refine Calls.mono hE.out ?_; rintro e w2 ⟨rfl, rfl⟩))
    go_ret
    exact ⟨rfl, rfl⟩
  · have hF : sufB l k = false := by unfold sufB; rw [decide_eq_false_iff_not]; omega
    rw [hF]
    have h2' : ¬ (2 : Int) ≤ (k : Int) := by omega
    go_enter Tryd.func46, Tryd.ntmps46
    go_wp2
    go_ret
    exact ⟨rfl, rfl⟩
theorem begin_k (s : S) (a : Int) : (beginS s a).k = s.k := by unfold beginS; split <;> rfl
set_option maxHeartbeats 3200000 in
set_option maxRecDepth 20000 in
theorem cont_s {B P : Nat} {w : World} {v : PV} {l : Bs} {L : Lm} {s : S} (h : Full B P w v l L s) (ho : s.op ≠ []) (hrd : s.ready = []) (hP : P ≠ 0) (ht : Tab w) :
    Calls Tryd.prog 36 #[pp P] w (Rd B P w v l L (contS l L s)) := by
  obtain ⟨X, hX⟩ : ∃ X, X = contS l L s := ⟨_, rfl⟩
  rw [← hX]
  have HX : Hid (X = contS l L s) := hX
  clear hX
  have HF0 : Hid _ := And.intro h (And.intro (Fr.refl P w v) (show Rq v v from rfl))
  have HT : Hid _ := ht
  have HRD : Hid _ := hrd
  have c1 := h.inn.rd
  have hkl : s.k ≤ l.length := h.inn.kl
  have hll : l.length ≤ 65536 := h.inn.ll
  clear h ht hrd
  cases hok : okl l s.k
  · have HC : Hid (X = .bad s.k 2) := by rw [HX.out, contS, peekS_f hok]; exact rfl
    go_enter Tryd.func36, Tryd.ntmps36
    go_wp2_with (first | (go_at_call 40; refine (peek_gf HF0.out.1.inn hok).mono ?_; rintro e w1 ⟨rfl, hg1, hi1⟩))
    refine ⟨rfl, ?_⟩
    rw [HC.out]
    exact ⟨rfl, _, hi1.ps, rfl, Fr.scan (k := v.k) hg1⟩
  have hlt := okl_lt hok
  by_cases h60 : lt l s.k = 60
  · have HX1 : Hid (X = markS l L s s.k (s.k + ln l s.k)) := by rw [HX.out, contS, peekS_t hok]; show (if lt l s.k = 60 then _ else _ : Q) = _; rw [if_pos h60]
    rcases hY : markS l L ({ s with k := s.k + ln l s.k } : S) s.k (s.k + ln l s.k) with s9 | ⟨p, er⟩
    · have HC : Hid (X = .go s9) := by rw [HX1.out, ← markS_k (j := s.k + ln l s.k)]; exact hY
      have HY : Hid _ := hY
      clear hY
      go_enter Tryd.func36, Tryd.ntmps36
      go_wp2_with fail
      refine (peek_g HF0.out.1.inn hok).mono ?_; rintro e w1 ⟨rfl, hg1, hi1⟩; have HF1 : Hid _ := And.intro (HF0.out.1.scan hg1 (In.self hi1)) (And.intro (HF0.out.2.1.trans (Fr.scan (k := (s.k : Int)) hg1)) HF0.out.2.2); clear hg1 hi1
      go_wp2_with fail
      refine (take_t HF1.out.1.inn hok).mono ?_; rintro e w2 ⟨rfl, hg2, hi2⟩; have HF2 : Hid _ := And.intro (HF1.out.1.scan hg2 hi2) (And.intro (HF1.out.2.1.trans (Fr.scan (k := (((s.k + ln l (s.k)) : Nat) : Int)) hg2)) HF1.out.2.2); clear hg2 hi2
      go_wp2_with fail
      refine (rd_go (mark_s s.k HF2.out.1 ho HRD.out hP (HT.out.fr HF0.out.1 hP HF2.out.2.1)) HY.out).mono ?_; rintro e w9 ⟨rfl, v9, F9, f9⟩; have HF9 : Hid _ := And.intro F9 (And.intro (HF2.out.2.1.trans f9) trivial); clear F9 f9
      go_wp2_with fail
      go_end0
      rw [HC.out]
      exact ⟨rfl, _, HF9.out.1, HF9.out.2.1⟩
    · have HC : Hid (X = .bad p er) := by rw [HX1.out, ← markS_k (j := s.k + ln l s.k)]; exact hY
      have HY : Hid _ := hY
      clear hY
      go_enter Tryd.func36, Tryd.ntmps36
      go_wp2_with fail
      refine (peek_g HF0.out.1.inn hok).mono ?_; rintro e w1 ⟨rfl, hg1, hi1⟩; have HF1 : Hid _ := And.intro (HF0.out.1.scan hg1 (In.self hi1)) (And.intro (HF0.out.2.1.trans (Fr.scan (k := (s.k : Int)) hg1)) HF0.out.2.2); clear hg1 hi1
      go_wp2_with fail
      refine (take_t HF1.out.1.inn hok).mono ?_; rintro e w2 ⟨rfl, hg2, hi2⟩; have HF2 : Hid _ := And.intro (HF1.out.1.scan hg2 hi2) (And.intro (HF1.out.2.1.trans (Fr.scan (k := (((s.k + ln l (s.k)) : Nat) : Int)) hg2)) HF1.out.2.2); clear hg2 hi2
      go_wp2_with fail
      refine (rd_bad (mark_s s.k HF2.out.1 ho HRD.out hP (HT.out.fr HF0.out.1 hP HF2.out.2.1)) HY.out).mono ?_; rintro e w9 ⟨rfl, v9, hp, hr, f9⟩
      go_wp2_with fail
      refine ⟨rfl, ?_⟩
      rw [HC.out]
      exact ⟨rfl, _, hp, hr.trans HF2.out.2.2, HF2.out.2.1.trans f9⟩
  have h60b : (lt l s.k == 60) = false := by simp [h60]
  by_cases h38 : lt l s.k = 38
  · have h38b : (lt l s.k == 38) = true := by simp [h38]
    have HX1 : Hid (X = (refS l s.k).q fun c k' => putQ L (beginS s s.k) c k') := by rw [HX.out, contS, peekS_t hok]; show (if lt l s.k = 60 then _ else _ : Q) = _; rw [if_neg h60, if_pos h38]
    clear h60 h38
    rcases hR : refS l s.k with ⟨c, k9⟩ | ⟨p, er⟩
    · have hcr := (refS_ok hR).1
      have HX9 : Hid (X = putQ L (beginS s s.k) c k9) := by rw [HX1.out, hR]; exact rfl
      have HR : Hid _ := hR
      have HCR : Hid (isChar c = true) := hcr
      clear hR hcr
      rcases hY : putQ L ({ beginS s s.k with k := k9 } : S) c k9 with s9 | ⟨p, er⟩
      · have HC : Hid (X = .go s9) := HX9.out.trans hY
        have HY : Hid _ := hY
        clear hY
        go_enter Tryd.func36, Tryd.ntmps36
        go_wp2_with fail
        refine (peek_g HF0.out.1.inn hok).mono ?_; rintro e w1 ⟨rfl, hg1, hi1⟩; have HF1 : Hid _ := And.intro (HF0.out.1.scan hg1 (In.self hi1)) (And.intro (HF0.out.2.1.trans (Fr.scan (k := (s.k : Int)) hg1)) HF0.out.2.2); clear hg1 hi1
        go_wp2_with fail
        refine (begin_r s.k HF1.out.1).mono ?_; rintro e w2 ⟨rfl, v2, F2, f2, q2⟩; have HF2 : Hid _ := And.intro F2 (And.intro (HF1.out.2.1.trans f2) (show Rq v2 v from q2.trans HF1.out.2.2)); clear F2 f2 q2
        go_wp2_with fail
        go_region_with (first | (go_at_call 45; refine (scan_ok (ref_s (begin_k s s.k ▸ (HF2.out.1.drewN 1).inn)) HR.out).mono ?_; rintro e w7 ⟨rfl, hg7, hi7⟩; have HF7 : Hid _ := And.intro ((HF2.out.1.drewN 1).scan hg7 hi7) (And.intro ((HF2.out.2.1.drewN 1).trans (Fr.scan (k := (k9 : Int)) hg7)) HF2.out.2.2); clear hg7 hi7) | (go_at_call 44; refine (rd_go (put_t HF7.out.1 HCR.out) HY.out).mono ?_; rintro e w8 ⟨rfl, v8, F8, f8⟩; have HF8 : Hid _ := And.intro F8 (HF7.out.2.1.trans f8); clear F8 f8))
        all_goals
          go_wp2_with fail
          go_end0
          rw [HC.out]
          exact ⟨rfl, _, HF8.out.1, HF8.out.2⟩
      · have HC : Hid (X = .bad p er) := HX9.out.trans hY
        have HY : Hid _ := hY
        clear hY
        go_enter Tryd.func36, Tryd.ntmps36
        go_wp2_with fail
        refine (peek_g HF0.out.1.inn hok).mono ?_; rintro e w1 ⟨rfl, hg1, hi1⟩; have HF1 : Hid _ := And.intro (HF0.out.1.scan hg1 (In.self hi1)) (And.intro (HF0.out.2.1.trans (Fr.scan (k := (s.k : Int)) hg1)) HF0.out.2.2); clear hg1 hi1
        go_wp2_with fail
        refine (begin_r s.k HF1.out.1).mono ?_; rintro e w2 ⟨rfl, v2, F2, f2, q2⟩; have HF2 : Hid _ := And.intro F2 (And.intro (HF1.out.2.1.trans f2) (show Rq v2 v from q2.trans HF1.out.2.2)); clear F2 f2 q2
        go_wp2_with fail
        go_region_with (first | (go_at_call 45; refine (scan_ok (ref_s (begin_k s s.k ▸ (HF2.out.1.drewN 1).inn)) HR.out).mono ?_; rintro e w7 ⟨rfl, hg7, hi7⟩; have HF7 : Hid _ := And.intro ((HF2.out.1.drewN 1).scan hg7 hi7) (And.intro ((HF2.out.2.1.drewN 1).trans (Fr.scan (k := (k9 : Int)) hg7)) HF2.out.2.2); clear hg7 hi7) | (go_at_call 44; refine (rd_bad (put_t HF7.out.1 HCR.out) HY.out).mono ?_; rintro e w8 ⟨rfl, v8, hp, hr, f8⟩; refine dmy w8 ⟨rfl, ?_⟩ ?_; rw [HC.out]; exact ⟨rfl, _, hp, hr.trans HF7.out.2.2, HF7.out.2.1.trans f8⟩))
        all_goals trivial
    · have HC : Hid (X = .bad p er) := by rw [HX1.out, hR]; exact rfl
      have HR : Hid _ := hR
      clear hR
      go_enter Tryd.func36, Tryd.ntmps36
      go_wp2_with fail
      refine (peek_g HF0.out.1.inn hok).mono ?_; rintro e w1 ⟨rfl, hg1, hi1⟩; have HF1 : Hid _ := And.intro (HF0.out.1.scan hg1 (In.self hi1)) (And.intro (HF0.out.2.1.trans (Fr.scan (k := (s.k : Int)) hg1)) HF0.out.2.2); clear hg1 hi1
      go_wp2_with fail
      refine (begin_r s.k HF1.out.1).mono ?_; rintro e w2 ⟨rfl, v2, F2, f2, q2⟩; have HF2 : Hid _ := And.intro F2 (And.intro (HF1.out.2.1.trans f2) (show Rq v2 v from q2.trans HF1.out.2.2)); clear F2 f2 q2
      go_wp2_with fail
      go_region_with (first | (go_at_call 45; refine (scan_bad (ref_s (begin_k s s.k ▸ (HF2.out.1.drewN 1).inn)) HR.out).mono ?_; rintro e w7 ⟨rfl, hg7, kk, hp⟩; refine dmy w7 ⟨rfl, ?_⟩ ?_; rw [HC.out]; exact ⟨rfl, _, hp, HF2.out.2.2, (HF2.out.2.1.drewN 1).trans (Fr.scan hg7)⟩))
      all_goals trivial
  have h38b : (lt l s.k == 38) = false := by simp [h38]
  by_cases h62 : lt l s.k = 62
  · have h62b : (lt l s.k == 62) = true := by simp [h62]
    cases hsuf : sufB l s.k
    · have hns : ¬ (lt l s.k = 62 ∧ 2 ≤ s.k ∧ l.getD (s.k - 1) 0 = 93 ∧ l.getD (s.k - 2) 0 = 93) := by
        rintro ⟨_, a⟩
        unfold sufB at hsuf
        rw [decide_eq_false_iff_not] at hsuf
        exact hsuf a
      have HX1 : Hid (X = (lineS l s.k).q fun c k' => putQ L (beginS s s.k) c k') := by rw [HX.out, contS, peekS_t hok]; show (if lt l s.k = 60 then _ else _ : Q) = _; rw [if_neg h60, if_neg h38, if_neg hns]
      clear h60 h38 hns h62
      rcases hR : lineS l s.k with ⟨c, k9⟩ | ⟨p, er⟩
      · have hcr := (lineS_ok hR).1
        have HX9 : Hid (X = putQ L (beginS s s.k) c k9) := by rw [HX1.out, hR]; exact rfl
        have HR : Hid _ := hR
        have HCR : Hid (isChar c = true) := hcr
        clear hR hcr
        rcases hY : putQ L ({ beginS s s.k with k := k9 } : S) c k9 with s9 | ⟨p, er⟩
        · have HC : Hid (X = .go s9) := HX9.out.trans hY
          have HY : Hid _ := hY
          clear hY
          go_enter Tryd.func36, Tryd.ntmps36
          go_wp2_with fail
          refine (peek_g HF0.out.1.inn hok).mono ?_; rintro e w1 ⟨rfl, hg1, hi1⟩; have HF1 : Hid _ := And.intro (HF0.out.1.scan hg1 (In.self hi1)) (And.intro (HF0.out.2.1.trans (Fr.scan (k := (s.k : Int)) hg1)) HF0.out.2.2); clear hg1 hi1
          have HSW : Hid _ := cw_bts w1 [93, 93] bb_bd; have HSB : Hid _ := cw_below w1 [93, 93]; have hcs := Lib.run_convert_bytes_const (P := Tryd.prog) w1 25 5 #[.int .u8 93, .int .u8 93] 2 2 Tryd.underlying25 Tryd.underlying5; change _ = Result.ok _ (cw w1 [93, 93]) at hcs; obtain ⟨g, cap, c0, hc, hm, hbt, _⟩ := HF1.out.1.inn.form hlt; have HBT : Hid _ := hbt; clear hbt; unfold maxLen at hm; generalize cw w1 [93, 93] = w2 at *
          go_wp2_with fail
          refine (suf_any (Bts.below HBT.out HSB.out) hkl hc hm HSW.out).mono ?_; rw [hsuf]; rintro e w3 ⟨rfl, rfl⟩; have HF3 : Hid _ := And.intro (HF1.out.1.below HSB.out).1 (And.intro (HF1.out.2.1.trans (HF1.out.1.below HSB.out).2) HF1.out.2.2)
          go_wp2_with fail
          refine (begin_r s.k HF3.out.1).mono ?_; rintro e w4 ⟨rfl, v4, F4, f4, q4⟩; have HF4 : Hid _ := And.intro F4 (And.intro (HF3.out.2.1.trans f4) (show Rq v4 v from q4.trans HF3.out.2.2)); clear F4 f4 q4
          go_wp2_with fail
          go_region_with (first | (go_at_call 48; refine (scan_ok (line_s (begin_k s s.k ▸ (HF4.out.1.drewN 1).inn)) HR.out).mono ?_; rintro e w7 ⟨rfl, hg7, hi7⟩; have HF7 : Hid _ := And.intro ((HF4.out.1.drewN 1).scan hg7 hi7) (And.intro ((HF4.out.2.1.drewN 1).trans (Fr.scan (k := (k9 : Int)) hg7)) HF4.out.2.2); clear hg7 hi7) | (go_at_call 44; refine (rd_go (put_t HF7.out.1 HCR.out) HY.out).mono ?_; rintro e w8 ⟨rfl, v8, F8, f8⟩; have HF8 : Hid _ := And.intro F8 (HF7.out.2.1.trans f8); clear F8 f8))
          all_goals
            go_wp2_with fail
            go_end0
            rw [HC.out]
            exact ⟨rfl, _, HF8.out.1, HF8.out.2⟩
        · have HC : Hid (X = .bad p er) := HX9.out.trans hY
          have HY : Hid _ := hY
          clear hY
          go_enter Tryd.func36, Tryd.ntmps36
          go_wp2_with fail
          refine (peek_g HF0.out.1.inn hok).mono ?_; rintro e w1 ⟨rfl, hg1, hi1⟩; have HF1 : Hid _ := And.intro (HF0.out.1.scan hg1 (In.self hi1)) (And.intro (HF0.out.2.1.trans (Fr.scan (k := (s.k : Int)) hg1)) HF0.out.2.2); clear hg1 hi1
          have HSW : Hid _ := cw_bts w1 [93, 93] bb_bd; have HSB : Hid _ := cw_below w1 [93, 93]; have hcs := Lib.run_convert_bytes_const (P := Tryd.prog) w1 25 5 #[.int .u8 93, .int .u8 93] 2 2 Tryd.underlying25 Tryd.underlying5; change _ = Result.ok _ (cw w1 [93, 93]) at hcs; obtain ⟨g, cap, c0, hc, hm, hbt, _⟩ := HF1.out.1.inn.form hlt; have HBT : Hid _ := hbt; clear hbt; unfold maxLen at hm; generalize cw w1 [93, 93] = w2 at *
          go_wp2_with fail
          refine (suf_any (Bts.below HBT.out HSB.out) hkl hc hm HSW.out).mono ?_; rw [hsuf]; rintro e w3 ⟨rfl, rfl⟩; have HF3 : Hid _ := And.intro (HF1.out.1.below HSB.out).1 (And.intro (HF1.out.2.1.trans (HF1.out.1.below HSB.out).2) HF1.out.2.2)
          go_wp2_with fail
          refine (begin_r s.k HF3.out.1).mono ?_; rintro e w4 ⟨rfl, v4, F4, f4, q4⟩; have HF4 : Hid _ := And.intro F4 (And.intro (HF3.out.2.1.trans f4) (show Rq v4 v from q4.trans HF3.out.2.2)); clear F4 f4 q4
          go_wp2_with fail
          go_region_with (first | (go_at_call 48; refine (scan_ok (line_s (begin_k s s.k ▸ (HF4.out.1.drewN 1).inn)) HR.out).mono ?_; rintro e w7 ⟨rfl, hg7, hi7⟩; have HF7 : Hid _ := And.intro ((HF4.out.1.drewN 1).scan hg7 hi7) (And.intro ((HF4.out.2.1.drewN 1).trans (Fr.scan (k := (k9 : Int)) hg7)) HF4.out.2.2); clear hg7 hi7) | (go_at_call 44; refine (rd_bad (put_t HF7.out.1 HCR.out) HY.out).mono ?_; rintro e w8 ⟨rfl, v8, hp, hr, f8⟩; refine dmy w8 ⟨rfl, ?_⟩ ?_; rw [HC.out]; exact ⟨rfl, _, hp, hr.trans HF7.out.2.2, HF7.out.2.1.trans f8⟩))
          all_goals trivial
      · have HC : Hid (X = .bad p er) := by rw [HX1.out, hR]; exact rfl
        have HR : Hid _ := hR
        clear hR
        go_enter Tryd.func36, Tryd.ntmps36
        go_wp2_with fail
        refine (peek_g HF0.out.1.inn hok).mono ?_; rintro e w1 ⟨rfl, hg1, hi1⟩; have HF1 : Hid _ := And.intro (HF0.out.1.scan hg1 (In.self hi1)) (And.intro (HF0.out.2.1.trans (Fr.scan (k := (s.k : Int)) hg1)) HF0.out.2.2); clear hg1 hi1
        have HSW : Hid _ := cw_bts w1 [93, 93] bb_bd; have HSB : Hid _ := cw_below w1 [93, 93]; have hcs := Lib.run_convert_bytes_const (P := Tryd.prog) w1 25 5 #[.int .u8 93, .int .u8 93] 2 2 Tryd.underlying25 Tryd.underlying5; change _ = Result.ok _ (cw w1 [93, 93]) at hcs; obtain ⟨g, cap, c0, hc, hm, hbt, _⟩ := HF1.out.1.inn.form hlt; have HBT : Hid _ := hbt; clear hbt; unfold maxLen at hm; generalize cw w1 [93, 93] = w2 at *
        go_wp2_with fail
        refine (suf_any (Bts.below HBT.out HSB.out) hkl hc hm HSW.out).mono ?_; rw [hsuf]; rintro e w3 ⟨rfl, rfl⟩; have HF3 : Hid _ := And.intro (HF1.out.1.below HSB.out).1 (And.intro (HF1.out.2.1.trans (HF1.out.1.below HSB.out).2) HF1.out.2.2)
        go_wp2_with fail
        refine (begin_r s.k HF3.out.1).mono ?_; rintro e w4 ⟨rfl, v4, F4, f4, q4⟩; have HF4 : Hid _ := And.intro F4 (And.intro (HF3.out.2.1.trans f4) (show Rq v4 v from q4.trans HF3.out.2.2)); clear F4 f4 q4
        go_wp2_with fail
        go_region_with (first | (go_at_call 48; refine (scan_bad (line_s (begin_k s s.k ▸ (HF4.out.1.drewN 1).inn)) HR.out).mono ?_; rintro e w7 ⟨rfl, hg7, kk, hp⟩; refine dmy w7 ⟨rfl, ?_⟩ ?_; rw [HC.out]; exact ⟨rfl, _, hp, HF4.out.2.2, (HF4.out.2.1.drewN 1).trans (Fr.scan hg7)⟩))
        all_goals trivial
    · have hns : lt l s.k = 62 ∧ 2 ≤ s.k ∧ l.getD (s.k - 1) 0 = 93 ∧ l.getD (s.k - 2) 0 = 93 := by unfold sufB at hsuf; rw [decide_eq_true_iff] at hsuf; exact ⟨h62, hsuf⟩
      have HC : Hid (X = .bad ((s.k : Int) - 2) 2) := by rw [HX.out, contS, peekS_t hok]; show (if lt l s.k = 60 then _ else _ : Q) = _; rw [if_neg h60, if_neg h38, if_pos hns]
      have h2k : 2 ≤ s.k := hns.2.1
      clear h60 h38 hns h62
      go_enter Tryd.func36, Tryd.ntmps36
      go_wp2_with fail
      refine (peek_g HF0.out.1.inn hok).mono ?_; rintro e w1 ⟨rfl, hg1, hi1⟩; have HF1 : Hid _ := And.intro (HF0.out.1.scan hg1 (In.self hi1)) (And.intro (HF0.out.2.1.trans (Fr.scan (k := (s.k : Int)) hg1)) HF0.out.2.2); clear hg1 hi1
      have HSW : Hid _ := cw_bts w1 [93, 93] bb_bd; have HSB : Hid _ := cw_below w1 [93, 93]; have hcs := Lib.run_convert_bytes_const (P := Tryd.prog) w1 25 5 #[.int .u8 93, .int .u8 93] 2 2 Tryd.underlying25 Tryd.underlying5; change _ = Result.ok _ (cw w1 [93, 93]) at hcs; obtain ⟨g, cap, c0, hc, hm, hbt, _⟩ := HF1.out.1.inn.form hlt; have HBT : Hid _ := hbt; clear hbt; unfold maxLen at hm; generalize cw w1 [93, 93] = w2 at *
      go_wp2_with fail
      refine (suf_any (Bts.below HBT.out HSB.out) hkl hc hm HSW.out).mono ?_; rw [hsuf]; rintro e w3 ⟨rfl, rfl⟩; have HF3 : Hid _ := And.intro (HF1.out.1.below HSB.out).1 (And.intro (HF1.out.2.1.trans (HF1.out.1.below HSB.out).2) HF1.out.2.2)
      go_wp2_with fail
      refine (fail_any _ _ _).mono ?_; rintro e w4 ⟨rfl, rfl⟩
      go_wp2_with fail
      refine ⟨rfl, ?_⟩
      rw [HC.out]
      exact ⟨rfl, _, HF3.out.1.inn.ps, HF3.out.2.2, HF3.out.2.1⟩
  have h62b : (lt l s.k == 62) = false := by simp [h62]
  have HX1 : Hid (X = (lineS l s.k).q fun c k' => putQ L (beginS s s.k) c k') := by rw [HX.out, contS, peekS_t hok]; show (if lt l s.k = 60 then _ else _ : Q) = _; rw [if_neg h60, if_neg h38, if_neg (fun x => h62 x.1)]
  clear h60 h38 h62
  rcases hR : lineS l s.k with ⟨c, k9⟩ | ⟨p, er⟩
  · have hcr := (lineS_ok hR).1
    have HX9 : Hid (X = putQ L (beginS s s.k) c k9) := by rw [HX1.out, hR]; exact rfl
    have HR : Hid _ := hR
    have HCR : Hid (isChar c = true) := hcr
    clear hR hcr
    rcases hY : putQ L ({ beginS s s.k with k := k9 } : S) c k9 with s9 | ⟨p, er⟩
    · have HC : Hid (X = .go s9) := HX9.out.trans hY
      have HY : Hid _ := hY
      clear hY
      go_enter Tryd.func36, Tryd.ntmps36
      go_wp2_with fail
      refine (peek_g HF0.out.1.inn hok).mono ?_; rintro e w1 ⟨rfl, hg1, hi1⟩; have HF1 : Hid _ := And.intro (HF0.out.1.scan hg1 (In.self hi1)) (And.intro (HF0.out.2.1.trans (Fr.scan (k := (s.k : Int)) hg1)) HF0.out.2.2); clear hg1 hi1
      go_wp2_with fail
      refine (begin_r s.k HF1.out.1).mono ?_; rintro e w2 ⟨rfl, v2, F2, f2, q2⟩; have HF2 : Hid _ := And.intro F2 (And.intro (HF1.out.2.1.trans f2) (show Rq v2 v from q2.trans HF1.out.2.2)); clear F2 f2 q2
      go_wp2_with fail
      go_region_with (first | (go_at_call 48; refine (scan_ok (line_s (begin_k s s.k ▸ (HF2.out.1.drewN 1).inn)) HR.out).mono ?_; rintro e w7 ⟨rfl, hg7, hi7⟩; have HF7 : Hid _ := And.intro ((HF2.out.1.drewN 1).scan hg7 hi7) (And.intro ((HF2.out.2.1.drewN 1).trans (Fr.scan (k := (k9 : Int)) hg7)) HF2.out.2.2); clear hg7 hi7) | (go_at_call 44; refine (rd_go (put_t HF7.out.1 HCR.out) HY.out).mono ?_; rintro e w8 ⟨rfl, v8, F8, f8⟩; have HF8 : Hid _ := And.intro F8 (HF7.out.2.1.trans f8); clear F8 f8))
      all_goals
        go_wp2_with fail
        go_end0
        rw [HC.out]
        exact ⟨rfl, _, HF8.out.1, HF8.out.2⟩
    · have HC : Hid (X = .bad p er) := HX9.out.trans hY
      have HY : Hid _ := hY
      clear hY
      go_enter Tryd.func36, Tryd.ntmps36
      go_wp2_with fail
      refine (peek_g HF0.out.1.inn hok).mono ?_; rintro e w1 ⟨rfl, hg1, hi1⟩; have HF1 : Hid _ := And.intro (HF0.out.1.scan hg1 (In.self hi1)) (And.intro (HF0.out.2.1.trans (Fr.scan (k := (s.k : Int)) hg1)) HF0.out.2.2); clear hg1 hi1
      go_wp2_with fail
      refine (begin_r s.k HF1.out.1).mono ?_; rintro e w2 ⟨rfl, v2, F2, f2, q2⟩; have HF2 : Hid _ := And.intro F2 (And.intro (HF1.out.2.1.trans f2) (show Rq v2 v from q2.trans HF1.out.2.2)); clear F2 f2 q2
      go_wp2_with fail
      go_region_with (first | (go_at_call 48; refine (scan_ok (line_s (begin_k s s.k ▸ (HF2.out.1.drewN 1).inn)) HR.out).mono ?_; rintro e w7 ⟨rfl, hg7, hi7⟩; have HF7 : Hid _ := And.intro ((HF2.out.1.drewN 1).scan hg7 hi7) (And.intro ((HF2.out.2.1.drewN 1).trans (Fr.scan (k := (k9 : Int)) hg7)) HF2.out.2.2); clear hg7 hi7) | (go_at_call 44; refine (rd_bad (put_t HF7.out.1 HCR.out) HY.out).mono ?_; rintro e w8 ⟨rfl, v8, hp, hr, f8⟩; refine dmy w8 ⟨rfl, ?_⟩ ?_; rw [HC.out]; exact ⟨rfl, _, hp, hr.trans HF7.out.2.2, HF7.out.2.1.trans f8⟩))
      all_goals trivial
  · have HC : Hid (X = .bad p er) := by rw [HX1.out, hR]; exact rfl
    have HR : Hid _ := hR
    clear hR
    go_enter Tryd.func36, Tryd.ntmps36
    go_wp2_with fail
    refine (peek_g HF0.out.1.inn hok).mono ?_; rintro e w1 ⟨rfl, hg1, hi1⟩; have HF1 : Hid _ := And.intro (HF0.out.1.scan hg1 (In.self hi1)) (And.intro (HF0.out.2.1.trans (Fr.scan (k := (s.k : Int)) hg1)) HF0.out.2.2); clear hg1 hi1
    go_wp2_with fail
    refine (begin_r s.k HF1.out.1).mono ?_; rintro e w2 ⟨rfl, v2, F2, f2, q2⟩; have HF2 : Hid _ := And.intro F2 (And.intro (HF1.out.2.1.trans f2) (show Rq v2 v from q2.trans HF1.out.2.2)); clear F2 f2 q2
    go_wp2_with fail
    go_region_with (first | (go_at_call 48; refine (scan_bad (line_s (begin_k s s.k ▸ (HF2.out.1.drewN 1).inn)) HR.out).mono ?_; rintro e w7 ⟨rfl, hg7, kk, hp⟩; refine dmy w7 ⟨rfl, ?_⟩ ?_; rw [HC.out]; exact ⟨rfl, _, hp, HF2.out.2.2, (HF2.out.2.1.drewN 1).trans (Fr.scan hg7)⟩))
    all_goals trivial
end Go.Proofs.YtjcgnbmpnaapdaaDoor
