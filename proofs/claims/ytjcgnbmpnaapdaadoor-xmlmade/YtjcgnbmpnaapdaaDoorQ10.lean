/- The contract of cdata; the end of a text. -/
import Derived.Test.YtjcgnbmpnaapdaaDoorQ8
namespace Go.Proofs.YtjcgnbmpnaapdaaDoor
open Go.RowKit
set_option linter.unusedVariables false

set_option maxHeartbeats 800000 in
theorem begin_r {B P : Nat} {w : World} {v : PV} {l : Bs} {L : Lm} {s : S} (at0 : Int) (h : Full B P w v l L s) :
    Calls Tryd.prog 43 #[pp P, .int .i64 at0] w fun e w' => e = .returned (.tuple #[]) ∧ ∃ v', Full B P w' v' l L (beginS s at0) ∧ Fr P w w' v v' ∧ v'.ready = v.ready := by
  have c11 : w.cell? ⟨P, 11, none⟩ = some (.bool v.begun) := h.inn.ps.cell 11
  have f11 := h.inn.ps.froz 11
  have c12 : w.cell? ⟨P, 12, none⟩ = some (.int .i64 v.tat) := h.inn.ps.cell 12
  have f12 := h.inn.ps.froz 12
  have c13 : w.cell? ⟨P, 13, none⟩ = some v.tout := h.inn.ps.cell 13
  have f13 := h.inn.ps.froz 13
  have HH : Hid _ := And.intro h (h.text3 true at0)
  have HB : Hid _ := h.bg
  cases hb : s.begun
  · have e : v.begun = false := by rw [h.bg, hb]
    rw [e] at c11
    have HS : Hid (beginS s at0 = { s with begun := true, tat := at0, tout := [] }) := by unfold beginS; rw [hb]; rfl
    clear h e hb
    go_enter Tryd.func43, Tryd.ntmps43
    go_wp2
    go_end0
    rw [HS.out]
    exact ⟨rfl, _, HH.out.2.1, HH.out.2.2, rfl⟩
  · have e : v.begun = true := by rw [h.bg, hb]
    rw [e] at c11
    have HS : Hid (beginS s at0 = s) := by unfold beginS; rw [if_pos hb]; exact rfl
    clear h e hb
    go_enter Tryd.func43, Tryd.ntmps43
    go_wp2
    go_end0
    rw [HS.out]
    exact ⟨rfl, _, HH.out.1, Fr.refl _ _ _, rfl⟩
theorem putc_ok {B P : Nat} {w : World} {v : PV} {l : Bs} {L : Lm} {s : S} {r : Int} (h : Full B P w v l L s) (hr : isChar r = true) (hbig : ¬ L.T < ((s.tout ++ enc r).length : Int)) :
    Calls Tryd.prog 44 #[pp P, .pointer (some ⟨P, 11, none⟩), .int .i32 r] w fun e w' => e = .returned (.tuple #[]) ∧ ∃ v', Full B P w' v' l L { s with tout := s.tout ++ enc r } ∧ Fr P w w' v v' ∧ v'.ready = v.ready := by
  have hT := h.bT
  have htl := h.tl
  have hneP : v.tout.ownBlock ≠ some P := by
    rcases own_ne81 h.inn.ps h.to (by decide) with e | e
    · rw [e]; simp
    · exact e
  refine (put_any (P := P) (O := P) (f := 11) (T := v.t) (at0 := v.tat) (h.inn.ps.cell 13) (h.inn.ps.froz 13) (h.inn.ps.cell 12) (h.inn.ps.cell 6) h.to h.sz (by omega) hneP hneP hr (by rintro ⟨_, e⟩; simp at e)).mono ?_
  rintro e w' ⟨rfl, ov', w3, m, hg3, ho3, hnn, hnb, rfl⟩
  have hps3 : PS w3 P v := h.inn.ps.kept hg3 (fun e => hneP e.symm)
  have hg4 := grownBy_set w3 P 13 ov'
  have hfr : Fr P w ((w3.setCell ⟨P, 13, none⟩ ov').drewN m) v { v with tout := ov' } := by
    refine ⟨hg4.os.trans hg3.os, hg4.tape.trans hg3.tape, hg4.output.trans hg3.output, Nat.le_trans hg3.size hg4.size, ?_, hnb, fun _ e => .inl e, fun _ e => .inl e⟩
    intro k hk1 n1 n2 n3 n4
    show (w3.setCell ⟨P, 13, none⟩ ov').heap[k]? = _
    rw [hg4.block k (Nat.lt_of_lt_of_le hk1 hg3.size) (by simpa using n1), hg3.block k hk1 n2]
  have hF := (h.toutv hg3 ho3 (app_bd h.tb (enc_bd r)) (by omega) hnb h.tneb).1
  refine ⟨?_, { v with tout := ov' }, ?_, hfr, rfl⟩
  · unfold putE
    rw [h.lt', if_neg hbig]
  · obtain ⟨xs, r1, r2⟩ := hF.rd
    exact ⟨hF.inn.drewN m, hF.pb, hF.gb, hF.sz, hF.ld, hF.lN, hF.la, hF.lt', hF.bD, hF.bA, hF.bT, hF.lg, hF.op, hF.opl, hF.nd, hF.bg, hF.ta, hF.to, hF.tb, hF.tl, ⟨xs, r1, EvC.ky (Ky.of (grownBy_drewN _ m none) (fun g e => by cases e)) r2⟩, hF.rl, hF.ov, hF.fa, hF.fe, hF.bN, hF.nb, hF.ob⟩
theorem putc_bad {B P : Nat} {w : World} {v : PV} {l : Bs} {L : Lm} {s : S} {r : Int} (h : Full B P w v l L s) (hr : isChar r = true) (hb : L.T < ((s.tout ++ enc r).length : Int)) :
    Calls Tryd.prog 44 #[pp P, .pointer (some ⟨P, 11, none⟩), .int .i32 r] w fun e w' => e = .panicked (flt s.tat 3) ∧ ∃ v', PS w' P v' ∧ v'.ready = v.ready ∧ Fr P w w' v v' := by
  have := put_t h hr
  have e : putQ L s r s.k = .bad s.tat 3 := by unfold putQ putS; rw [if_pos hb]; rfl
  rw [e] at this
  exact this
theorem putS_t {T at0 : Int} {o : Bs} {r : Int} {k : Nat} (h : T < ((o ++ enc r).length : Int)) : putS T at0 o r k = .bad at0 3 := by rw [putS, if_pos h]
theorem putS_f {T at0 : Int} {o : Bs} {r : Int} {k : Nat} (h : ¬ T < ((o ++ enc r).length : Int)) : putS T at0 o r k = .ok (o ++ enc r) k := by rw [putS, if_neg h]
theorem Fr.rdy {P : Nat} {w1 w2 w3 : World} {v1 v2 v3 : PV} (h : Fr P w1 w2 v1 v2) (k : Fr P w2 w3 v2 v3) : Fr P w1 w3 v1 v3 := h.trans k
set_option maxHeartbeats 3200000 in
set_option maxRecDepth 20000 in
theorem cdata_s {B P : Nat} {w : World} {v : PV} {l : Bs} {L : Lm} {s : S} (lt0 : Nat) (h : Full B P w v l L s) (hrd : s.ready = []) :
    Calls Tryd.prog 62 #[pp P, .int .i64 lt0] w (Rd B P w v l L (cdS l L s lt0 s.k)) := by
  obtain ⟨X, hX⟩ : ∃ X, X = cdS l L s lt0 s.k := ⟨_, rfl⟩
  rw [← hX]
  have HX : Hid _ := hX
  clear hX
  have HH : Hid _ := h
  have hT := h.bT
  rcases hw : wordS l lt0 [91, 67, 68, 65, 84, 65, 91] s.k with ⟨_, k1⟩ | ⟨p, er⟩
  · have HW : Hid _ := hw
    obtain ⟨bs, hbs⟩ : ∃ bs, bs = beginS s lt0 := ⟨_, rfl⟩
    have HX1 : Hid (X = (cdL (l.length + 1) l L.T bs.tat 0 bs.tout k1).q fun o k2 => .go { bs with tout := o, k := k2 }) := by rw [HX.out, cdS, hw, hbs]; exact rfl
    have HBS : Hid (bs = beginS s lt0) := hbs
    have hbr : bs.ready = [] := by rw [hbs]; unfold beginS; split <;> exact hrd
    clear hw hbs HX h
    go_enter Tryd.func62, Tryd.ntmps62
    go_wp2_with (first | (go_at_call 66; refine (scan_ok (word_c #[91, 67, 68, 65, 84, 65, 91] _ [91, 67, 68, 65, 84, 65, 91] (by decide) rfl HH.out.inn) HW.out).mono ?_; rintro e w1 ⟨rfl, hg1, hi1⟩; have F1 := HH.out.scan hg1 hi1; have HF1 : Hid _ := And.intro F1 (Fr.scan (v := v) (k := (k1 : Int)) hg1); clear F1 hg1 hi1) | (go_at_call 43; refine (begin_r lt0 HF1.out.1).mono ?_; rintro e w2 ⟨rfl, v2, F2, f2, hr2⟩; have e2 : beginS ({ s with k := k1 } : S) lt0 = { bs with k := k1 } := (by rw [HBS.out]; unfold beginS; split <;> rfl); rw [e2] at F2; have HF2 : Hid _ := And.intro F2 (And.intro (HF1.out.2.trans f2) hr2); clear F2 f2 e2 hr2))
    go_loopg [4] (l.length + 1) (fun n v4 wr => ∃ (j h : Nat) (o : Bs) (v' : PV), v4 = .int .i64 h ∧ h ≤ 2 ∧ Full B P wr v' l L { bs with tout := o, k := j } ∧ Fr P w wr v v' ∧ v'.ready = v.ready ∧ l.length - j + 1 ≤ n ∧ Hid (cdL n l L.T bs.tat h o j = cdL (l.length + 1) l L.T bs.tat 0 bs.tout k1))
    case atStart => exact ⟨k1, 0, bs.tout, v2, rfl, by omega, HF2.out.1, HF2.out.2.1, HF2.out.2.2, by omega, rfl⟩
    case round =>
      obtain ⟨j, h, o, v', rfl, hh, hF, hfr, hrq, hn, HF⟩ := hrel
      obtain ⟨n, rfl⟩ : ∃ n, gk = n + 1 := ⟨gk - 1, by omega⟩
      have hjl : j ≤ l.length := hF.inn.kl
      have HFu : Hid _ := And.intro hF (And.intro hfr hrq)
      clear hF hfr hrq
      rcases hl : lineS l j with ⟨r, j2⟩ | ⟨p, er⟩
      · have HL : Hid _ := hl
        obtain ⟨hcr, hj2⟩ := lineS_ok hl
        have HKL : Hid (j2 ≤ l.length) := ((M.line_gd hjl).use hl).2
        have HCR : Hid (isChar r = true) := hcr
        clear hl hcr
        by_cases h93 : r = 93
        · subst h93
          by_cases hh2 : h < 2
          · have HS : Hid (cdL n l L.T bs.tat (h + 1) o j2 = cdL (l.length + 1) l L.T bs.tat 0 bs.tout k1) := by rw [← HF.out, cdL, HL.out, bind_ok, if_pos rfl, if_pos hh2]; exact rfl
            go_wp2_with (first | (go_at_call 48; refine (scan_ok (line_s HFu.out.1.inn) HL.out).mono ?_; rintro e w3 ⟨rfl, hg3, hi3⟩; have F3 := HFu.out.1.scan hg3 hi3; have f3 := HFu.out.2.1.trans (Fr.scan (k := (j2 : Int)) hg3); have HF3 : Hid _ := And.intro F3 (And.intro f3 HFu.out.2.2); clear F3 f3 hg3 hi3))
            go_roundg n
            case measure => omega
            case rel => exact ⟨j2, h + 1, o, _, by go_num, by omega, HF3.out.1, HF3.out.2.1, HF3.out.2.2, by have := HKL.out; omega, HS⟩
          · obtain rfl : h = 2 := by omega
            by_cases hb1 : L.T < ((o ++ enc 93).length : Int)
            · have HC : Hid (X = .bad bs.tat 3) := by rw [HX1.out, ← HF.out, cdL, HL.out, bind_ok, if_pos rfl, if_neg (by omega), putS_t hb1]; exact rfl
              have HB1 : Hid _ := hb1
              clear hb1
              go_wp2_with fail
              refine (scan_ok (line_s HFu.out.1.inn) HL.out).mono ?_; rintro e w3 ⟨rfl, hg3, hi3⟩; have F3 := HFu.out.1.scan hg3 hi3; have f3 := HFu.out.2.1.trans (Fr.scan (k := (j2 : Int)) hg3); have HF3 : Hid _ := And.intro F3 (And.intro f3 HFu.out.2.2); clear F3 f3 hg3 hi3
              go_wp2_with fail
              refine wp_loop_rounds 1 ?_
              rw [rounds_succ]
              go_wp2_with fail
              refine (putc_bad HF3.out.1 (by decide) HB1.out).mono ?_; rintro e w4 ⟨rfl, v4, hp, hr, f4⟩
              go_wp2_with fail
              refine ⟨rfl, ?_⟩
              rw [HC.out]
              exact ⟨rfl, _, hp, hr.trans HF3.out.2.2, HF3.out.2.1.trans f4⟩
            · have HS : Hid (cdL n l L.T bs.tat 2 (o ++ enc 93) j2 = cdL (l.length + 1) l L.T bs.tat 0 bs.tout k1) := by rw [← HF.out, cdL, HL.out, bind_ok, if_pos rfl, if_neg (by omega), putS_f hb1, bind_ok]; exact rfl
              have HB1 : Hid _ := hb1
              clear hb1
              go_wp2_with fail
              refine (scan_ok (line_s HFu.out.1.inn) HL.out).mono ?_; rintro e w3 ⟨rfl, hg3, hi3⟩; have F3 := HFu.out.1.scan hg3 hi3; have f3 := HFu.out.2.1.trans (Fr.scan (k := (j2 : Int)) hg3); have HF3 : Hid _ := And.intro F3 (And.intro f3 HFu.out.2.2); clear F3 f3 hg3 hi3
              go_wp2_with fail
              refine wp_loop_rounds 1 ?_
              rw [rounds_succ]
              go_wp2_with fail
              refine (putc_ok HF3.out.1 (by decide) HB1.out).mono ?_; rintro e w4 ⟨rfl, v4, F4, f4, q4⟩; have HF4 : Hid _ := And.intro F4 (And.intro (HF3.out.2.1.trans f4) (q4.trans HF3.out.2.2)); clear F4 f4 q4
              go_wp2_with fail
              go_roundg n
              case measure => omega
              case rel => exact ⟨j2, 2, o ++ enc 93, _, by go_num, by omega, HF4.out.1, HF4.out.2.1, HF4.out.2.2, by have := HKL.out; omega, HS⟩
        have h93b : (r == 93) = false := by simp [h93]
        have h93c : (r != 93) = true := by simp [h93]
        by_cases hend : r = 62 ∧ h = 2
        · have HC : Hid (X = .go { bs with tout := o, k := j2 }) := by rw [HX1.out, ← HF.out, cdL, HL.out, bind_ok, if_neg h93, if_pos hend]; exact rfl
          obtain ⟨rfl, rfl⟩ := hend
          clear h93
          go_wp2_with (first | (go_at_call 48; refine (scan_ok (line_s HFu.out.1.inn) HL.out).mono ?_; rintro e w3 ⟨rfl, hg3, hi3⟩; have F3 := HFu.out.1.scan hg3 hi3; have f3 := HFu.out.2.1.trans (Fr.scan (k := (j2 : Int)) hg3); have HF3 : Hid _ := And.intro F3 (And.intro f3 HFu.out.2.2); clear F3 f3 hg3 hi3))
          go_end0
          rw [HC.out]
          exact ⟨rfl, _, HF3.out.1, HF3.out.2.1⟩
        have hb62 : (r == 62) = false ∨ ((h : Int) == 2) = false := by
          by_cases e : r = 62
          · right; exact beq_eq_false_iff_ne.2 (fun x => hend ⟨e, by omega⟩)
          · left; simp [e]
        rcases (by omega : h = 0 ∨ h = 1 ∨ h = 2) with rfl | rfl | rfl
        · have hE : (r == 62) = (r == 62) := rfl
          clear hE hb62
          cases h62 : (r == 62)
          all_goals
            by_cases hb1 : L.T < ((o ++ enc r).length : Int)
            · have HC : Hid (X = .bad bs.tat 3) := by rw [HX1.out, ← HF.out, cdL, HL.out, bind_ok, if_neg h93, if_neg hend, putR, bind_ok, putS_t hb1]; exact rfl
              have HB1 : Hid _ := hb1
              clear h93 hend hb1
              go_wp2_with fail
              refine (scan_ok (line_s HFu.out.1.inn) HL.out).mono ?_; rintro e w3 ⟨rfl, hg3, hi3⟩; have F3 := HFu.out.1.scan hg3 hi3; have f3 := HFu.out.2.1.trans (Fr.scan (k := (j2 : Int)) hg3); have HF3 : Hid _ := And.intro F3 (And.intro f3 HFu.out.2.2); clear F3 f3 hg3 hi3
              go_wp2_with fail
              refine wp_loop_rounds 1 ?_
              rw [rounds_succ]
              go_wp2_with fail
              refine (putc_bad HF3.out.1 HCR.out HB1.out).mono ?_; rintro e w4 ⟨rfl, v4, hp, hr, f4⟩
              go_wp2_with fail
              refine ⟨rfl, ?_⟩
              rw [HC.out]
              exact ⟨rfl, _, hp, hr.trans HF3.out.2.2, HF3.out.2.1.trans f4⟩
            · have HS : Hid (cdL n l L.T bs.tat 0 (o ++ enc r) j2 = cdL (l.length + 1) l L.T bs.tat 0 bs.tout k1) := by rw [← HF.out, cdL, HL.out, bind_ok, if_neg h93, if_neg hend, putR, bind_ok, putS_f hb1, bind_ok]; exact rfl
              have HB1 : Hid _ := hb1
              clear h93 hend hb1
              go_wp2_with fail
              refine (scan_ok (line_s HFu.out.1.inn) HL.out).mono ?_; rintro e w3 ⟨rfl, hg3, hi3⟩; have F3 := HFu.out.1.scan hg3 hi3; have f3 := HFu.out.2.1.trans (Fr.scan (k := (j2 : Int)) hg3); have HF3 : Hid _ := And.intro F3 (And.intro f3 HFu.out.2.2); clear F3 f3 hg3 hi3
              go_wp2_with fail
              refine wp_loop_rounds 1 ?_
              rw [rounds_succ]
              go_wp2_with fail
              refine (putc_ok HF3.out.1 HCR.out HB1.out).mono ?_; rintro e w4 ⟨rfl, v4, F4, f4, q4⟩; have HF4 : Hid _ := And.intro F4 (And.intro (HF3.out.2.1.trans f4) (q4.trans HF3.out.2.2)); clear F4 f4 q4
              go_wp2_with fail
              go_roundg n
              case measure => omega
              case rel => exact ⟨j2, 0, o ++ enc r, _, by go_num, by omega, HF4.out.1, HF4.out.2.1, HF4.out.2.2, by have := HKL.out; omega, HS⟩
        · have hE : (r == 62) = (r == 62) := rfl
          clear hE hb62
          cases h62 : (r == 62)
          all_goals
            by_cases hb1 : L.T < ((o ++ enc 93).length : Int)
            · have HC : Hid (X = .bad bs.tat 3) := by rw [HX1.out, ← HF.out, cdL, HL.out, bind_ok, if_neg h93, if_neg hend, putR, putS_t hb1]; exact rfl
              have HB1 : Hid _ := hb1
              clear h93 hend hb1
              go_wp2_with fail
              refine (scan_ok (line_s HFu.out.1.inn) HL.out).mono ?_; rintro e w3 ⟨rfl, hg3, hi3⟩; have F3 := HFu.out.1.scan hg3 hi3; have f3 := HFu.out.2.1.trans (Fr.scan (k := (j2 : Int)) hg3); have HF3 : Hid _ := And.intro F3 (And.intro f3 HFu.out.2.2); clear F3 f3 hg3 hi3
              go_wp2_with fail
              refine wp_loop_rounds 2 ?_
              rw [rounds_succ]
              go_wp2_with fail
              refine (putc_bad HF3.out.1 (by decide) HB1.out).mono ?_; rintro e w4 ⟨rfl, v4, hp, hr, f4⟩
              go_wp2_with fail
              refine ⟨rfl, ?_⟩
              rw [HC.out]
              exact ⟨rfl, _, hp, hr.trans HF3.out.2.2, HF3.out.2.1.trans f4⟩
            · skip
              by_cases hb2 : L.T < (((o ++ enc 93) ++ enc r).length : Int)
              · have HC : Hid (X = .bad bs.tat 3) := by rw [HX1.out, ← HF.out, cdL, HL.out, bind_ok, if_neg h93, if_neg hend, putR, putS_f hb1, bind_ok, putR, bind_ok, putS_t hb2]; exact rfl
                have HB1 : Hid _ := hb1
                have HB2 : Hid _ := hb2
                clear h93 hend hb1 hb2
                go_wp2_with fail
                refine (scan_ok (line_s HFu.out.1.inn) HL.out).mono ?_; rintro e w3 ⟨rfl, hg3, hi3⟩; have F3 := HFu.out.1.scan hg3 hi3; have f3 := HFu.out.2.1.trans (Fr.scan (k := (j2 : Int)) hg3); have HF3 : Hid _ := And.intro F3 (And.intro f3 HFu.out.2.2); clear F3 f3 hg3 hi3
                go_wp2_with fail
                refine wp_loop_rounds 2 ?_
                rw [rounds_succ]
                go_wp2_with fail
                refine (putc_ok HF3.out.1 (by decide) HB1.out).mono ?_; rintro e w4 ⟨rfl, v4, F4, f4, q4⟩; have HF4 : Hid _ := And.intro F4 (And.intro (HF3.out.2.1.trans f4) (q4.trans HF3.out.2.2)); clear F4 f4 q4
                go_wp2_with fail
                rw [rounds_succ]
                go_wp2_with fail
                refine (putc_bad HF4.out.1 HCR.out HB2.out).mono ?_; rintro e w5 ⟨rfl, v5, hp, hr, f5⟩
                go_wp2_with fail
                refine ⟨rfl, ?_⟩
                rw [HC.out]
                exact ⟨rfl, _, hp, hr.trans HF4.out.2.2, HF4.out.2.1.trans f5⟩
              · have HS : Hid (cdL n l L.T bs.tat 0 ((o ++ enc 93) ++ enc r) j2 = cdL (l.length + 1) l L.T bs.tat 0 bs.tout k1) := by rw [← HF.out, cdL, HL.out, bind_ok, if_neg h93, if_neg hend, putR, putS_f hb1, bind_ok, putR, bind_ok, putS_f hb2, bind_ok]; exact rfl
                have HB1 : Hid _ := hb1
                have HB2 : Hid _ := hb2
                clear h93 hend hb1 hb2
                go_wp2_with fail
                refine (scan_ok (line_s HFu.out.1.inn) HL.out).mono ?_; rintro e w3 ⟨rfl, hg3, hi3⟩; have F3 := HFu.out.1.scan hg3 hi3; have f3 := HFu.out.2.1.trans (Fr.scan (k := (j2 : Int)) hg3); have HF3 : Hid _ := And.intro F3 (And.intro f3 HFu.out.2.2); clear F3 f3 hg3 hi3
                go_wp2_with fail
                refine wp_loop_rounds 2 ?_
                rw [rounds_succ]
                go_wp2_with fail
                refine (putc_ok HF3.out.1 (by decide) HB1.out).mono ?_; rintro e w4 ⟨rfl, v4, F4, f4, q4⟩; have HF4 : Hid _ := And.intro F4 (And.intro (HF3.out.2.1.trans f4) (q4.trans HF3.out.2.2)); clear F4 f4 q4
                go_wp2_with fail
                rw [rounds_succ]
                go_wp2_with fail
                refine (putc_ok HF4.out.1 HCR.out HB2.out).mono ?_; rintro e w5 ⟨rfl, v5, F5, f5, q5⟩; have HF5 : Hid _ := And.intro F5 (And.intro (HF4.out.2.1.trans f5) (q5.trans HF4.out.2.2)); clear F5 f5 q5
                go_wp2_with fail
                go_roundg n
                case measure => omega
                case rel => exact ⟨j2, 0, (o ++ enc 93) ++ enc r, _, by go_num, by omega, HF5.out.1, HF5.out.2.1, HF5.out.2.2, by have := HKL.out; omega, HS⟩
        · have hE : (r == 62) = (r == 62) := rfl
          have h62 : (r == 62) = false := by rcases hb62 with e | e; exact e; simp at e
          clear hE hb62
          by_cases hb1 : L.T < ((o ++ enc 93).length : Int)
          · have HC : Hid (X = .bad bs.tat 3) := by rw [HX1.out, ← HF.out, cdL, HL.out, bind_ok, if_neg h93, if_neg hend, putR, putS_t hb1]; exact rfl
            have HB1 : Hid _ := hb1
            clear h93 hend hb1
            go_wp2_with fail
            refine (scan_ok (line_s HFu.out.1.inn) HL.out).mono ?_; rintro e w3 ⟨rfl, hg3, hi3⟩; have F3 := HFu.out.1.scan hg3 hi3; have f3 := HFu.out.2.1.trans (Fr.scan (k := (j2 : Int)) hg3); have HF3 : Hid _ := And.intro F3 (And.intro f3 HFu.out.2.2); clear F3 f3 hg3 hi3
            go_wp2_with fail
            refine wp_loop_rounds 3 ?_
            rw [rounds_succ]
            go_wp2_with fail
            refine (putc_bad HF3.out.1 (by decide) HB1.out).mono ?_; rintro e w4 ⟨rfl, v4, hp, hr, f4⟩
            go_wp2_with fail
            refine ⟨rfl, ?_⟩
            rw [HC.out]
            exact ⟨rfl, _, hp, hr.trans HF3.out.2.2, HF3.out.2.1.trans f4⟩
          · skip
            by_cases hb2 : L.T < (((o ++ enc 93) ++ enc 93).length : Int)
            · have HC : Hid (X = .bad bs.tat 3) := by rw [HX1.out, ← HF.out, cdL, HL.out, bind_ok, if_neg h93, if_neg hend, putR, putS_f hb1, bind_ok, putR, putS_t hb2]; exact rfl
              have HB1 : Hid _ := hb1
              have HB2 : Hid _ := hb2
              clear h93 hend hb1 hb2
              go_wp2_with fail
              refine (scan_ok (line_s HFu.out.1.inn) HL.out).mono ?_; rintro e w3 ⟨rfl, hg3, hi3⟩; have F3 := HFu.out.1.scan hg3 hi3; have f3 := HFu.out.2.1.trans (Fr.scan (k := (j2 : Int)) hg3); have HF3 : Hid _ := And.intro F3 (And.intro f3 HFu.out.2.2); clear F3 f3 hg3 hi3
              go_wp2_with fail
              refine wp_loop_rounds 3 ?_
              rw [rounds_succ]
              go_wp2_with fail
              refine (putc_ok HF3.out.1 (by decide) HB1.out).mono ?_; rintro e w4 ⟨rfl, v4, F4, f4, q4⟩; have HF4 : Hid _ := And.intro F4 (And.intro (HF3.out.2.1.trans f4) (q4.trans HF3.out.2.2)); clear F4 f4 q4
              go_wp2_with fail
              rw [rounds_succ]
              go_wp2_with fail
              refine (putc_bad HF4.out.1 (by decide) HB2.out).mono ?_; rintro e w5 ⟨rfl, v5, hp, hr, f5⟩
              go_wp2_with fail
              refine ⟨rfl, ?_⟩
              rw [HC.out]
              exact ⟨rfl, _, hp, hr.trans HF4.out.2.2, HF4.out.2.1.trans f5⟩
            · skip
              by_cases hb3 : L.T < ((((o ++ enc 93) ++ enc 93) ++ enc r).length : Int)
              · have HC : Hid (X = .bad bs.tat 3) := by rw [HX1.out, ← HF.out, cdL, HL.out, bind_ok, if_neg h93, if_neg hend, putR, putS_f hb1, bind_ok, putR, putS_f hb2, bind_ok, putR, bind_ok, putS_t hb3]; exact rfl
                have HB1 : Hid _ := hb1
                have HB2 : Hid _ := hb2
                have HB3 : Hid _ := hb3
                clear h93 hend hb1 hb2 hb3
                go_wp2_with fail
                refine (scan_ok (line_s HFu.out.1.inn) HL.out).mono ?_; rintro e w3 ⟨rfl, hg3, hi3⟩; have F3 := HFu.out.1.scan hg3 hi3; have f3 := HFu.out.2.1.trans (Fr.scan (k := (j2 : Int)) hg3); have HF3 : Hid _ := And.intro F3 (And.intro f3 HFu.out.2.2); clear F3 f3 hg3 hi3
                go_wp2_with fail
                refine wp_loop_rounds 3 ?_
                rw [rounds_succ]
                go_wp2_with fail
                refine (putc_ok HF3.out.1 (by decide) HB1.out).mono ?_; rintro e w4 ⟨rfl, v4, F4, f4, q4⟩; have HF4 : Hid _ := And.intro F4 (And.intro (HF3.out.2.1.trans f4) (q4.trans HF3.out.2.2)); clear F4 f4 q4
                go_wp2_with fail
                rw [rounds_succ]
                go_wp2_with fail
                refine (putc_ok HF4.out.1 (by decide) HB2.out).mono ?_; rintro e w5 ⟨rfl, v5, F5, f5, q5⟩; have HF5 : Hid _ := And.intro F5 (And.intro (HF4.out.2.1.trans f5) (q5.trans HF4.out.2.2)); clear F5 f5 q5
                go_wp2_with fail
                rw [rounds_succ]
                go_wp2_with fail
                refine (putc_bad HF5.out.1 HCR.out HB3.out).mono ?_; rintro e w6 ⟨rfl, v6, hp, hr, f6⟩
                go_wp2_with fail
                refine ⟨rfl, ?_⟩
                rw [HC.out]
                exact ⟨rfl, _, hp, hr.trans HF5.out.2.2, HF5.out.2.1.trans f6⟩
              · have HS : Hid (cdL n l L.T bs.tat 0 (((o ++ enc 93) ++ enc 93) ++ enc r) j2 = cdL (l.length + 1) l L.T bs.tat 0 bs.tout k1) := by rw [← HF.out, cdL, HL.out, bind_ok, if_neg h93, if_neg hend, putR, putS_f hb1, bind_ok, putR, putS_f hb2, bind_ok, putR, bind_ok, putS_f hb3, bind_ok]; exact rfl
                have HB1 : Hid _ := hb1
                have HB2 : Hid _ := hb2
                have HB3 : Hid _ := hb3
                clear h93 hend hb1 hb2 hb3
                go_wp2_with fail
                refine (scan_ok (line_s HFu.out.1.inn) HL.out).mono ?_; rintro e w3 ⟨rfl, hg3, hi3⟩; have F3 := HFu.out.1.scan hg3 hi3; have f3 := HFu.out.2.1.trans (Fr.scan (k := (j2 : Int)) hg3); have HF3 : Hid _ := And.intro F3 (And.intro f3 HFu.out.2.2); clear F3 f3 hg3 hi3
                go_wp2_with fail
                refine wp_loop_rounds 3 ?_
                rw [rounds_succ]
                go_wp2_with fail
                refine (putc_ok HF3.out.1 (by decide) HB1.out).mono ?_; rintro e w4 ⟨rfl, v4, F4, f4, q4⟩; have HF4 : Hid _ := And.intro F4 (And.intro (HF3.out.2.1.trans f4) (q4.trans HF3.out.2.2)); clear F4 f4 q4
                go_wp2_with fail
                rw [rounds_succ]
                go_wp2_with fail
                refine (putc_ok HF4.out.1 (by decide) HB2.out).mono ?_; rintro e w5 ⟨rfl, v5, F5, f5, q5⟩; have HF5 : Hid _ := And.intro F5 (And.intro (HF4.out.2.1.trans f5) (q5.trans HF4.out.2.2)); clear F5 f5 q5
                go_wp2_with fail
                rw [rounds_succ]
                go_wp2_with fail
                refine (putc_ok HF5.out.1 HCR.out HB3.out).mono ?_; rintro e w6 ⟨rfl, v6, F6, f6, q6⟩; have HF6 : Hid _ := And.intro F6 (And.intro (HF5.out.2.1.trans f6) (q6.trans HF5.out.2.2)); clear F6 f6 q6
                go_wp2_with fail
                go_roundg n
                case measure => omega
                case rel => exact ⟨j2, 0, ((o ++ enc 93) ++ enc 93) ++ enc r, _, by go_num, by omega, HF6.out.1, HF6.out.2.1, HF6.out.2.2, by have := HKL.out; omega, HS⟩
      · have HC : Hid (X = .bad p er) := by rw [HX1.out, ← HF.out, cdL, hl]; exact rfl
        go_wp2_with (first | (go_at_call 48; refine (scan_bad (line_s HFu.out.1.inn) hl).mono ?_; rintro e w3 ⟨rfl, hg3, kk, hp⟩))
        refine ⟨rfl, ?_⟩
        rw [HC.out]
        exact ⟨rfl, _, hp, HFu.out.2.2, HFu.out.2.1.trans (Fr.scan hg3)⟩
  · have HC : Hid (X = .bad p er) := by rw [HX.out, cdS, hw]; exact rfl
    clear h
    go_enter Tryd.func62, Tryd.ntmps62
    go_wp2_with (first | (go_at_call 66; refine (scan_bad (word_c #[91, 67, 68, 65, 84, 65, 91] _ [91, 67, 68, 65, 84, 65, 91] (by decide) rfl HH.out.inn) hw).mono ?_; rintro e w1 ⟨rfl, hg1, kk, hp⟩))
    refine ⟨rfl, ?_⟩
    rw [HC.out]
    exact rd_scan_bad hg1 hp
end Go.Proofs.YtjcgnbmpnaapdaaDoor
namespace Go.Proofs.YtjcgnbmpnaapdaaDoor
open Go.RowKit
set_option linter.unusedVariables false

/-- The row of events is the same. -/
def Rq (a b : PV) : Prop := a.ready = b.ready
theorem rd_go {B P N : Nat} {args : Array Value} {w : World} {v : PV} {l : Bs} {L : Lm} {x : Q} {s' : S} (h : Calls Tryd.prog N args w (Rd B P w v l L x)) (hx : x = .go s') :
    Calls Tryd.prog N args w fun e w' => e = .returned (.tuple #[]) ∧ ∃ v', Full B P w' v' l L s' ∧ Fr P w w' v v' := by subst hx; exact h
theorem rd_bad {B P N : Nat} {args : Array Value} {w : World} {v : PV} {l : Bs} {L : Lm} {x : Q} {p er : Int} (h : Calls Tryd.prog N args w (Rd B P w v l L x)) (hx : x = .bad p er) :
    Calls Tryd.prog N args w fun e w' => e = .panicked (flt p er) ∧ ∃ v', PS w' P v' ∧ v'.ready = v.ready ∧ Fr P w w' v v' := by subst hx; exact h
theorem cdS_k {l : Bs} {L : Lm} {s : S} {j lt0 k : Nat} : cdS l L { s with k := j } lt0 k = cdS l L s lt0 k := by
  unfold cdS beginS
  cases h : s.begun <;> simp [h]
theorem Tab.fr {B P : Nat} {w w' : World} {v v' : PV} {l : Bs} {L : Lm} {s : S} (h : Tab w) (hF : Full B P w v l L s) (hP : P ≠ 0) (hf : Fr P w w' v v') : Tab w' := by
  have hB : 0 < B := by have := hF.pb; omega
  obtain ⟨xs, hr, _⟩ := hF.rd
  have h0 : 0 < w.heap.size := World.block_lt_of_cell? w _ h.a
  have e : w'.heap[0]? = w.heap[0]? := by
    refine hf.blk 0 h0 (fun e => hP e.symm) ?_ ?_ ?_
    · intro e; have := (hF.to.lt 0 e.symm).1; omega
    · intro e; have := (hr.lt 0 e.symm).1; omega
    · intro e; have := (hF.op.lt 0 e.symm).1; omega
  have k : ∀ {i v}, w.cell? ⟨0, i, none⟩ = some v → w'.cell? ⟨0, i, none⟩ = some v := fun {i v} hi => (World.cell?_of_block (a := ⟨0, i, none⟩) e).trans hi
  exact ⟨k h.a, k h.b, k h.c, k h.d, k h.e, k h.f⟩
set_option maxHeartbeats 3200000 in
theorem mark_s {B P : Nat} {w : World} {v : PV} {l : Bs} {L : Lm} {s : S} (lt0 : Nat) (h : Full B P w v l L s) (ho : s.op ≠ []) (hrd : s.ready = []) (hP : P ≠ 0) (ht : Tab w) :
    Calls Tryd.prog 42 #[pp P, .int .i64 lt0] w (Rd B P w v l L (markS l L s lt0 s.k)) := by
  obtain ⟨X, hX⟩ : ∃ X, X = markS l L s lt0 s.k := ⟨_, rfl⟩
  rw [← hX]
  have HX : Hid (X = markS l L s lt0 s.k) := hX
  clear hX
  have HF0 : Hid _ := And.intro h (And.intro (Fr.refl P w v) (show Rq v v from rfl))
  have HT : Hid _ := ht
  have HRD : Hid _ := hrd
  have hT := h.bT
  have hT' : 0 ≤ v.t ∧ v.t ≤ 65536 := by rw [h.lt']; omega
  have HLT : Hid _ := h.lt'
  have hkl : s.k ≤ l.length := h.inn.kl
  have hP' : some P ≠ some 0 := by simpa using hP
  clear h ht hrd
  cases hok : okl l s.k
  · have HC : Hid (X = .bad s.k 2) := by rw [HX.out, markS, peekS_f hok]; exact rfl
    go_enter Tryd.func42, Tryd.ntmps42
    go_wp2_with (first | (go_at_call 40; refine (peek_gf HF0.out.1.inn hok).mono ?_; rintro e w1 ⟨rfl, hg1, hi1⟩))
    refine ⟨rfl, ?_⟩
    rw [HC.out]
    exact ⟨rfl, _, hi1.ps, rfl, Fr.scan (k := v.k) hg1⟩
  by_cases h63 : lt l s.k = 63
  · skip
    rcases hY : instS l v.t s.k with ⟨_, k9⟩ | ⟨p, er⟩
    · have HC : Hid (X = .go { s with k := k9 }) := by rw [HX.out, markS, peekS_t hok]; show (if lt l s.k = 63 then _ else _ : Q) = _; rw [if_pos h63]; rw [← HLT.out]; rw [hY]; exact rfl
      have HY : Hid _ := hY
      clear hY
      go_enter Tryd.func42, Tryd.ntmps42
      go_wp2_with fail
      refine (peek_g HF0.out.1.inn hok).mono ?_; rintro e w1 ⟨rfl, hg1, hi1⟩; have HF1 : Hid _ := And.intro (HF0.out.1.scan hg1 (In.self hi1)) (And.intro (HF0.out.2.1.trans (Fr.scan (k := (s.k : Int)) hg1)) HF0.out.2.2); clear hg1 hi1
      go_wp2_with fail
      refine (scan_ok (inst_s HF1.out.1.inn hT' hP (HT.out.fr HF0.out.1 hP HF1.out.2.1)) HY.out).mono ?_; rintro e w9 ⟨rfl, hg9, hi9⟩; have HF9 : Hid _ := And.intro (HF1.out.1.scan hg9 hi9) (And.intro (HF1.out.2.1.trans (Fr.scan (k := (k9 : Int)) hg9)) trivial); clear hg9 hi9
      go_wp2_with fail
      go_end0
      rw [HC.out]
      exact ⟨rfl, _, HF9.out.1, HF9.out.2.1⟩
    · have HC : Hid (X = .bad p er) := by rw [HX.out, markS, peekS_t hok]; show (if lt l s.k = 63 then _ else _ : Q) = _; rw [if_pos h63]; rw [← HLT.out]; rw [hY]; exact rfl
      have HY : Hid _ := hY
      clear hY
      go_enter Tryd.func42, Tryd.ntmps42
      go_wp2_with fail
      refine (peek_g HF0.out.1.inn hok).mono ?_; rintro e w1 ⟨rfl, hg1, hi1⟩; have HF1 : Hid _ := And.intro (HF0.out.1.scan hg1 (In.self hi1)) (And.intro (HF0.out.2.1.trans (Fr.scan (k := (s.k : Int)) hg1)) HF0.out.2.2); clear hg1 hi1
      go_wp2_with fail
      refine (scan_bad (inst_s HF1.out.1.inn hT' hP (HT.out.fr HF0.out.1 hP HF1.out.2.1)) HY.out).mono ?_; rintro e w9 ⟨rfl, hg9, kk, hp⟩
      go_wp2_with fail
      refine ⟨rfl, ?_⟩
      rw [HC.out]
      exact ⟨rfl, _, hp, HF1.out.2.2, HF1.out.2.1.trans (Fr.scan hg9)⟩
  have h63b : (lt l s.k == 63) = false := by simp [h63]
  by_cases h33 : lt l s.k = 33
  · have h33b : (lt l s.k == 33) = true := by simp [h33]
    have hle := ln_le l s.k hkl
    have HX1 : Hid (X = bangS l L s lt0 (s.k + ln l s.k)) := by rw [HX.out, markS, peekS_t hok]; show (if lt l s.k = 63 then _ else _ : Q) = _; rw [if_neg h63, if_pos h33]
    clear h63 h33
    cases hok2 : okl l (s.k + ln l s.k)
    · have HC : Hid (X = .bad ((s.k + ln l s.k : Nat) : Int) 2) := by rw [HX1.out, bangS, peekS_f hok2]; exact rfl
      go_enter Tryd.func42, Tryd.ntmps42
      go_wp2_with fail
      refine (peek_g HF0.out.1.inn hok).mono ?_; rintro e w1 ⟨rfl, hg1, hi1⟩; have HF1 : Hid _ := And.intro (HF0.out.1.scan hg1 (In.self hi1)) (And.intro (HF0.out.2.1.trans (Fr.scan (k := (s.k : Int)) hg1)) HF0.out.2.2); clear hg1 hi1
      go_wp2_with fail
      refine (take_t HF1.out.1.inn hok).mono ?_; rintro e w2 ⟨rfl, hg2, hi2⟩; have HF2 : Hid _ := And.intro (HF1.out.1.scan hg2 hi2) (And.intro (HF1.out.2.1.trans (Fr.scan (k := (((s.k + ln l (s.k)) : Nat) : Int)) hg2)) HF1.out.2.2); clear hg2 hi2
      go_wp2_with fail
      refine (peek_gf HF2.out.1.inn hok2).mono ?_; rintro e w3 ⟨rfl, hg3, hi3⟩
      go_wp2_with fail
      refine ⟨rfl, ?_⟩
      rw [HC.out]
      exact ⟨rfl, _, hi3.ps, HF2.out.2.2, HF2.out.2.1.trans (Fr.scan hg3)⟩
    by_cases h91 : lt l (s.k + ln l s.k) = 91
    · have HX2 : Hid (X = cdS l L s lt0 (s.k + ln l s.k)) := by rw [HX1.out, bangS, peekS_t hok2]; show (if lt l (s.k + ln l s.k) = 91 then _ else _ : Q) = _; rw [if_pos h91]
      rcases hY : cdS l L ({ s with k := s.k + ln l s.k } : S) lt0 (s.k + ln l s.k) with s9 | ⟨p, er⟩
      · have HC : Hid (X = .go s9) := by rw [HX2.out, ← cdS_k (j := s.k + ln l s.k)]; exact hY
        have HY : Hid _ := hY
        clear hY
        go_enter Tryd.func42, Tryd.ntmps42
        go_wp2_with fail
        refine (peek_g HF0.out.1.inn hok).mono ?_; rintro e w1 ⟨rfl, hg1, hi1⟩; have HF1 : Hid _ := And.intro (HF0.out.1.scan hg1 (In.self hi1)) (And.intro (HF0.out.2.1.trans (Fr.scan (k := (s.k : Int)) hg1)) HF0.out.2.2); clear hg1 hi1
        go_wp2_with fail
        refine (take_t HF1.out.1.inn hok).mono ?_; rintro e w2 ⟨rfl, hg2, hi2⟩; have HF2 : Hid _ := And.intro (HF1.out.1.scan hg2 hi2) (And.intro (HF1.out.2.1.trans (Fr.scan (k := (((s.k + ln l (s.k)) : Nat) : Int)) hg2)) HF1.out.2.2); clear hg2 hi2
        go_wp2_with fail
        refine (peek_g HF2.out.1.inn hok2).mono ?_; rintro e w3 ⟨rfl, hg3, hi3⟩; have HF3 : Hid _ := And.intro (HF2.out.1.scan hg3 (In.self hi3)) (And.intro (HF2.out.2.1.trans (Fr.scan (k := ((s.k + ln l s.k : Nat) : Int)) hg3)) HF2.out.2.2); clear hg3 hi3
        go_wp2_with fail
        refine (rd_go (cdata_s lt0 HF3.out.1 HRD.out) HY.out).mono ?_; rintro e w9 ⟨rfl, v9, F9, f9⟩; have HF9 : Hid _ := And.intro F9 (And.intro (HF3.out.2.1.trans f9) trivial); clear F9 f9
        go_wp2_with fail
        go_end0
        rw [HC.out]
        exact ⟨rfl, _, HF9.out.1, HF9.out.2.1⟩
      · have HC : Hid (X = .bad p er) := by rw [HX2.out, ← cdS_k (j := s.k + ln l s.k)]; exact hY
        have HY : Hid _ := hY
        clear hY
        go_enter Tryd.func42, Tryd.ntmps42
        go_wp2_with fail
        refine (peek_g HF0.out.1.inn hok).mono ?_; rintro e w1 ⟨rfl, hg1, hi1⟩; have HF1 : Hid _ := And.intro (HF0.out.1.scan hg1 (In.self hi1)) (And.intro (HF0.out.2.1.trans (Fr.scan (k := (s.k : Int)) hg1)) HF0.out.2.2); clear hg1 hi1
        go_wp2_with fail
        refine (take_t HF1.out.1.inn hok).mono ?_; rintro e w2 ⟨rfl, hg2, hi2⟩; have HF2 : Hid _ := And.intro (HF1.out.1.scan hg2 hi2) (And.intro (HF1.out.2.1.trans (Fr.scan (k := (((s.k + ln l (s.k)) : Nat) : Int)) hg2)) HF1.out.2.2); clear hg2 hi2
        go_wp2_with fail
        refine (peek_g HF2.out.1.inn hok2).mono ?_; rintro e w3 ⟨rfl, hg3, hi3⟩; have HF3 : Hid _ := And.intro (HF2.out.1.scan hg3 (In.self hi3)) (And.intro (HF2.out.2.1.trans (Fr.scan (k := ((s.k + ln l s.k : Nat) : Int)) hg3)) HF2.out.2.2); clear hg3 hi3
        go_wp2_with fail
        refine (rd_bad (cdata_s lt0 HF3.out.1 HRD.out) HY.out).mono ?_; rintro e w9 ⟨rfl, v9, hp, hr, f9⟩
        go_wp2_with fail
        refine ⟨rfl, ?_⟩
        rw [HC.out]
        exact ⟨rfl, _, hp, hr.trans HF3.out.2.2, HF3.out.2.1.trans f9⟩
    · have h91b : (lt l (s.k + ln l s.k) == 91) = false := by simp [h91]
      have HX2 : Hid (X = (noteS l lt0 (s.k + ln l s.k)).q fun _ k' => .go { s with k := k' }) := by rw [HX1.out, bangS, peekS_t hok2]; show (if lt l (s.k + ln l s.k) = 91 then _ else _ : Q) = _; rw [if_neg h91]
      clear h91
      rcases hY : noteS l lt0 (s.k + ln l s.k) with ⟨_, k9⟩ | ⟨p, er⟩
      · have HC : Hid (X = .go { s with k := k9 }) := by rw [HX2.out]; rw [hY]; exact rfl
        have HY : Hid _ := hY
        clear hY
        go_enter Tryd.func42, Tryd.ntmps42
        go_wp2_with fail
        refine (peek_g HF0.out.1.inn hok).mono ?_; rintro e w1 ⟨rfl, hg1, hi1⟩; have HF1 : Hid _ := And.intro (HF0.out.1.scan hg1 (In.self hi1)) (And.intro (HF0.out.2.1.trans (Fr.scan (k := (s.k : Int)) hg1)) HF0.out.2.2); clear hg1 hi1
        go_wp2_with fail
        refine (take_t HF1.out.1.inn hok).mono ?_; rintro e w2 ⟨rfl, hg2, hi2⟩; have HF2 : Hid _ := And.intro (HF1.out.1.scan hg2 hi2) (And.intro (HF1.out.2.1.trans (Fr.scan (k := (((s.k + ln l (s.k)) : Nat) : Int)) hg2)) HF1.out.2.2); clear hg2 hi2
        go_wp2_with fail
        refine (peek_g HF2.out.1.inn hok2).mono ?_; rintro e w3 ⟨rfl, hg3, hi3⟩; have HF3 : Hid _ := And.intro (HF2.out.1.scan hg3 (In.self hi3)) (And.intro (HF2.out.2.1.trans (Fr.scan (k := ((s.k + ln l s.k : Nat) : Int)) hg3)) HF2.out.2.2); clear hg3 hi3
        go_wp2_with fail
        refine (scan_ok (note_s lt0 HF3.out.1.inn) HY.out).mono ?_; rintro e w9 ⟨rfl, hg9, hi9⟩; have HF9 : Hid _ := And.intro (HF3.out.1.scan hg9 hi9) (And.intro (HF3.out.2.1.trans (Fr.scan (k := (k9 : Int)) hg9)) trivial); clear hg9 hi9
        go_wp2_with fail
        go_end0
        rw [HC.out]
        exact ⟨rfl, _, HF9.out.1, HF9.out.2.1⟩
      · have HC : Hid (X = .bad p er) := by rw [HX2.out]; rw [hY]; exact rfl
        have HY : Hid _ := hY
        clear hY
        go_enter Tryd.func42, Tryd.ntmps42
        go_wp2_with fail
        refine (peek_g HF0.out.1.inn hok).mono ?_; rintro e w1 ⟨rfl, hg1, hi1⟩; have HF1 : Hid _ := And.intro (HF0.out.1.scan hg1 (In.self hi1)) (And.intro (HF0.out.2.1.trans (Fr.scan (k := (s.k : Int)) hg1)) HF0.out.2.2); clear hg1 hi1
        go_wp2_with fail
        refine (take_t HF1.out.1.inn hok).mono ?_; rintro e w2 ⟨rfl, hg2, hi2⟩; have HF2 : Hid _ := And.intro (HF1.out.1.scan hg2 hi2) (And.intro (HF1.out.2.1.trans (Fr.scan (k := (((s.k + ln l (s.k)) : Nat) : Int)) hg2)) HF1.out.2.2); clear hg2 hi2
        go_wp2_with fail
        refine (peek_g HF2.out.1.inn hok2).mono ?_; rintro e w3 ⟨rfl, hg3, hi3⟩; have HF3 : Hid _ := And.intro (HF2.out.1.scan hg3 (In.self hi3)) (And.intro (HF2.out.2.1.trans (Fr.scan (k := ((s.k + ln l s.k : Nat) : Int)) hg3)) HF2.out.2.2); clear hg3 hi3
        go_wp2_with fail
        refine (scan_bad (note_s lt0 HF3.out.1.inn) HY.out).mono ?_; rintro e w9 ⟨rfl, hg9, kk, hp⟩
        go_wp2_with fail
        refine ⟨rfl, ?_⟩
        rw [HC.out]
        exact ⟨rfl, _, hp, HF3.out.2.2, HF3.out.2.1.trans (Fr.scan hg9)⟩
  have h33b : (lt l s.k == 33) = false := by simp [h33]
  by_cases h47 : lt l s.k = 47
  · have h47b : (lt l s.k == 47) = true := by simp [h47]
    have HX1 : Hid (X = endS l L s lt0 (s.k + ln l s.k)) := by rw [HX.out, markS, peekS_t hok]; show (if lt l s.k = 63 then _ else _ : Q) = _; rw [if_neg h63, if_neg h33, if_pos h47]
    clear h63 h33 h47
    rcases hY : endS l L ({ s with k := s.k + ln l s.k } : S) lt0 (s.k + ln l s.k) with s9 | ⟨p, er⟩
    · have HC : Hid (X = .go s9) := by rw [HX1.out]; exact hY
      have HY : Hid _ := hY
      clear hY
      go_enter Tryd.func42, Tryd.ntmps42
      go_wp2_with fail
      refine (peek_g HF0.out.1.inn hok).mono ?_; rintro e w1 ⟨rfl, hg1, hi1⟩; have HF1 : Hid _ := And.intro (HF0.out.1.scan hg1 (In.self hi1)) (And.intro (HF0.out.2.1.trans (Fr.scan (k := (s.k : Int)) hg1)) HF0.out.2.2); clear hg1 hi1
      go_wp2_with fail
      refine (take_t HF1.out.1.inn hok).mono ?_; rintro e w2 ⟨rfl, hg2, hi2⟩; have HF2 : Hid _ := And.intro (HF1.out.1.scan hg2 hi2) (And.intro (HF1.out.2.1.trans (Fr.scan (k := (((s.k + ln l (s.k)) : Nat) : Int)) hg2)) HF1.out.2.2); clear hg2 hi2
      go_wp2_with fail
      refine (rd_go (end_s lt0 HF2.out.1 ho HRD.out) HY.out).mono ?_; rintro e w9 ⟨rfl, v9, F9, f9⟩; have HF9 : Hid _ := And.intro F9 (And.intro (HF2.out.2.1.trans f9) trivial); clear F9 f9
      go_wp2_with fail
      go_end0
      rw [HC.out]
      exact ⟨rfl, _, HF9.out.1, HF9.out.2.1⟩
    · have HC : Hid (X = .bad p er) := by rw [HX1.out]; exact hY
      have HY : Hid _ := hY
      clear hY
      go_enter Tryd.func42, Tryd.ntmps42
      go_wp2_with fail
      refine (peek_g HF0.out.1.inn hok).mono ?_; rintro e w1 ⟨rfl, hg1, hi1⟩; have HF1 : Hid _ := And.intro (HF0.out.1.scan hg1 (In.self hi1)) (And.intro (HF0.out.2.1.trans (Fr.scan (k := (s.k : Int)) hg1)) HF0.out.2.2); clear hg1 hi1
      go_wp2_with fail
      refine (take_t HF1.out.1.inn hok).mono ?_; rintro e w2 ⟨rfl, hg2, hi2⟩; have HF2 : Hid _ := And.intro (HF1.out.1.scan hg2 hi2) (And.intro (HF1.out.2.1.trans (Fr.scan (k := (((s.k + ln l (s.k)) : Nat) : Int)) hg2)) HF1.out.2.2); clear hg2 hi2
      go_wp2_with fail
      refine (rd_bad (end_s lt0 HF2.out.1 ho HRD.out) HY.out).mono ?_; rintro e w9 ⟨rfl, v9, hp, hr, f9⟩
      go_wp2_with fail
      refine ⟨rfl, ?_⟩
      rw [HC.out]
      exact ⟨rfl, _, hp, hr.trans HF2.out.2.2, HF2.out.2.1.trans f9⟩
  have h47b : (lt l s.k == 47) = false := by simp [h47]
  have HX1 : Hid (X = tagS l L s lt0 s.k) := by rw [HX.out, markS, peekS_t hok]; show (if lt l s.k = 63 then _ else _ : Q) = _; rw [if_neg h63, if_neg h33, if_neg h47]
  clear h63 h33 h47
  rcases hY : tagS l L s lt0 s.k with s9 | ⟨p, er⟩
  · have HC : Hid (X = .go s9) := by rw [HX1.out]; exact hY
    have HY : Hid _ := hY
    clear hY
    go_enter Tryd.func42, Tryd.ntmps42
    go_wp2_with fail
    refine (peek_g HF0.out.1.inn hok).mono ?_; rintro e w1 ⟨rfl, hg1, hi1⟩; have HF1 : Hid _ := And.intro (HF0.out.1.scan hg1 (In.self hi1)) (And.intro (HF0.out.2.1.trans (Fr.scan (k := (s.k : Int)) hg1)) HF0.out.2.2); clear hg1 hi1
    go_wp2_with fail
    refine (rd_go (start_s lt0 HF1.out.1 HRD.out) HY.out).mono ?_; rintro e w9 ⟨rfl, v9, F9, f9⟩; have HF9 : Hid _ := And.intro F9 (And.intro (HF1.out.2.1.trans f9) trivial); clear F9 f9
    go_wp2_with fail
    go_end0
    rw [HC.out]
    exact ⟨rfl, _, HF9.out.1, HF9.out.2.1⟩
  · have HC : Hid (X = .bad p er) := by rw [HX1.out]; exact hY
    have HY : Hid _ := hY
    clear hY
    go_enter Tryd.func42, Tryd.ntmps42
    go_wp2_with fail
    refine (peek_g HF0.out.1.inn hok).mono ?_; rintro e w1 ⟨rfl, hg1, hi1⟩; have HF1 : Hid _ := And.intro (HF0.out.1.scan hg1 (In.self hi1)) (And.intro (HF0.out.2.1.trans (Fr.scan (k := (s.k : Int)) hg1)) HF0.out.2.2); clear hg1 hi1
    go_wp2_with fail
    refine (rd_bad (start_s lt0 HF1.out.1 HRD.out) HY.out).mono ?_; rintro e w9 ⟨rfl, v9, hp, hr, f9⟩
    go_wp2_with fail
    refine ⟨rfl, ?_⟩
    rw [HC.out]
    exact ⟨rfl, _, hp, hr.trans HF1.out.2.2, HF1.out.2.1.trans f9⟩
end Go.Proofs.YtjcgnbmpnaapdaaDoor
