/- The contract of instruction. -/
import Derived.Test.YtjcgnbmpnaapdaaDoorQ1
namespace Go.Proofs.YtjcgnbmpnaapdaaDoor
open Go.RowKit
set_option linter.unusedVariables false

theorem sb_size (l : Bs) : (sb l).size = l.length := by
  unfold sb
  show (l.map _).toArray.size = _
  simp
theorem sub_len' (l : Bs) (k j : Nat) : (sub l k j).length ≤ l.length := by
  unfold sub
  simp
  omega
theorem fold_nm {P k k2 : Nat} {v : PV} {l nm : Bs} {w : World} {T : Int} (h : In P w v l k) (hn : nameS l T k = .ok nm k2) (W : World) (ht : Tab W) :
    Calls Tryd.prog 73 #[.string (sb nm), .string ⟨#[120, 109, 108]⟩] W fun e w' => e = .returned (.bool (foldX nm)) ∧ Below W.heap.size W w' := by
  have h1 := (nameS_ok hn).1
  have hb : ∀ i, 0 ≤ nm.getD i 0 ∧ nm.getD i 0 < 256 := by rw [h1]; exact sub_bd h.br.2
  have := equalFold_any (sb nm) W (by rw [sb_size, h1]; have := sub_len' l k k2; have := h.ll; omega) ht
  rw [bl_sb nm hb] at this
  exact this
theorem inL_f {n : Nat} {l : Bs} {a : Bool} {j : Nat} (hok : okl l j = false) : instL (n + 1) l a j = .bad j 2 := by rw [instL, takeS_f hok]; rfl

set_option maxHeartbeats 1600000 in
theorem inst_s {P k : Nat} {v : PV} {l : Bs} {w : World} (h : In P w v l k) (hT : 0 ≤ v.t ∧ v.t ≤ 65536) (hP : P ≠ 0) (ht : Tab w) : Calls Tryd.prog 58 #[pp P] w (Scan P w v l ret0 (instS l v.t k)) := by
  have hP' : some P ≠ some 0 := by simpa using hP
  cases hok : okl l k
  · rw [instS, takeS_f hok, bind_bad]
    go_enter Tryd.func58, Tryd.ntmps58
    go_wp2_with (go_at_call 41; refine (take_f h hok).mono ?_; rintro e w' ⟨rfl, hg, kk, hp⟩)
    exact ⟨rfl, rfl, hg, kk, hp⟩
  rw [instS, takeS_t hok, bind_ok]
  generalize hk1 : k + ln l k = k1
  have hTk := take_t h hok
  rw [hk1] at hTk
  clear hk1
  have HTB : Hid _ := ht
  clear ht
  rcases hn : nameS l v.t k1 with ⟨nm, k2⟩ | ⟨p, er⟩
  · rw [bind_ok]
    have HN : Hid (nameS l v.t k1 = .ok nm k2) := hn
    clear hn
    cases hok2 : okl l k2
    · rw [peekS_f hok2, bind_bad]
      go_enter Tryd.func58, Tryd.ntmps58
      go_wp2_with (first | (go_at_call 41; refine hTk.mono ?_; rintro e w1 ⟨rfl, hg1, hi1⟩; have c1 := hi1.rd) | (go_at_call 72; refine (scan_ok (name_s hi1 hT) HN.out).mono ?_; rintro e w2 ⟨rfl, hg2, hi2⟩) | (go_at_call 40; refine (peek_f hi2 hok2).mono ?_; rintro e w3 ⟨rfl, m, rfl⟩))
      exact ⟨rfl, rfl, grownBy_trans hg1 (grownBy_trans hg2 (gd _)), _, hi2.ps⟩
    rw [peekS_t hok2, bind_ok]
    cases hf : foldX nm
    · rw [if_neg (by simp)]
      rcases hb : blanksS l k2 with ⟨gap, k3⟩ | ⟨p, er⟩
      · rw [bind_ok]
        have HB : Hid (blanksS l k2 = .ok gap k3) := hb
        clear hb
        cases gap
        · rw [if_neg (by simp)]
          rcases hs1 : signS l 63 k3 with ⟨_, k4⟩ | ⟨p, er⟩
          · rw [bind_ok]
            have HS1 : Hid _ := hs1
            clear hs1
            rcases hs2 : signS l 62 k4 with ⟨_, k5⟩ | ⟨p, er⟩
            · have HS2 : Hid _ := hs2
              clear hs2
              go_enter Tryd.func58, Tryd.ntmps58
              go_wp2_with (first | (go_at_call 41; refine hTk.mono ?_; rintro e w1 ⟨rfl, hg1, hi1⟩; have c1 := hi1.rd) | (go_at_call 72; refine (scan_ok (name_s hi1 hT) HN.out).mono ?_; rintro e w2 ⟨rfl, hg2, hi2⟩) | (go_at_call 40; refine (peek_t hi2 hok2).mono ?_; rintro e w3 ⟨rfl, m, rfl⟩) | (go_at_call 73; refine (fold_nm hi1 HN.out _ ((HTB.out.far (grownBy_trans hg1 (grownBy_trans hg2 (gd _))) hP'))).mono ?_; rw [hf]; rintro e w4 ⟨rfl, hb4⟩; have hi4 := (hi2.drewN m).below hb4 (hi2.drewN m).ps.lt (hi2.drewN m).gb; have hg4 := grownBy_trans (grownBy_trans hg1 (grownBy_trans hg2 (gd m))) (grownBy_of_below hb4 (some P)); have c4 := hi4.rd) | (go_at_call 51; refine (scan_ok (blanks_s hi4) HB.out).mono ?_; rintro e w5 ⟨rfl, hg5, hi5⟩) | (go_at_call_of 56 (Value.int IntKind.i32 63); refine (scan_ok (sign_s 63 hi5) HS1.out).mono ?_; rintro e w6 ⟨rfl, hg6, hi6⟩) | (go_at_call_of 56 (Value.int IntKind.i32 62); refine (scan_ok (sign_s 62 hi6) HS2.out).mono ?_; rintro e w7 ⟨rfl, hg7, hi7⟩))
              go_end0
              exact ⟨rfl, grownBy_trans hg4 (grownBy_trans hg5 (grownBy_trans hg6 hg7)), hi7⟩
            · have HS2 : Hid _ := hs2
              clear hs2
              go_enter Tryd.func58, Tryd.ntmps58
              go_wp2_with (first | (go_at_call 41; refine hTk.mono ?_; rintro e w1 ⟨rfl, hg1, hi1⟩; have c1 := hi1.rd) | (go_at_call 72; refine (scan_ok (name_s hi1 hT) HN.out).mono ?_; rintro e w2 ⟨rfl, hg2, hi2⟩) | (go_at_call 40; refine (peek_t hi2 hok2).mono ?_; rintro e w3 ⟨rfl, m, rfl⟩) | (go_at_call 73; refine (fold_nm hi1 HN.out _ ((HTB.out.far (grownBy_trans hg1 (grownBy_trans hg2 (gd _))) hP'))).mono ?_; rw [hf]; rintro e w4 ⟨rfl, hb4⟩; have hi4 := (hi2.drewN m).below hb4 (hi2.drewN m).ps.lt (hi2.drewN m).gb; have hg4 := grownBy_trans (grownBy_trans hg1 (grownBy_trans hg2 (gd m))) (grownBy_of_below hb4 (some P)); have c4 := hi4.rd) | (go_at_call 51; refine (scan_ok (blanks_s hi4) HB.out).mono ?_; rintro e w5 ⟨rfl, hg5, hi5⟩) | (go_at_call_of 56 (Value.int IntKind.i32 63); refine (scan_ok (sign_s 63 hi5) HS1.out).mono ?_; rintro e w6 ⟨rfl, hg6, hi6⟩) | (go_at_call_of 56 (Value.int IntKind.i32 62); refine (scan_bad (sign_s 62 hi6) HS2.out).mono ?_; rintro e w7 ⟨rfl, hg7, kk, hp⟩))
              exact ⟨rfl, rfl, grownBy_trans hg4 (grownBy_trans hg5 (grownBy_trans hg6 hg7)), kk, hp⟩
          · rw [bind_bad]
            have HS1 : Hid _ := hs1
            clear hs1
            go_enter Tryd.func58, Tryd.ntmps58
            go_wp2_with (first | (go_at_call 41; refine hTk.mono ?_; rintro e w1 ⟨rfl, hg1, hi1⟩; have c1 := hi1.rd) | (go_at_call 72; refine (scan_ok (name_s hi1 hT) HN.out).mono ?_; rintro e w2 ⟨rfl, hg2, hi2⟩) | (go_at_call 40; refine (peek_t hi2 hok2).mono ?_; rintro e w3 ⟨rfl, m, rfl⟩) | (go_at_call 73; refine (fold_nm hi1 HN.out _ ((HTB.out.far (grownBy_trans hg1 (grownBy_trans hg2 (gd _))) hP'))).mono ?_; rw [hf]; rintro e w4 ⟨rfl, hb4⟩; have hi4 := (hi2.drewN m).below hb4 (hi2.drewN m).ps.lt (hi2.drewN m).gb; have hg4 := grownBy_trans (grownBy_trans hg1 (grownBy_trans hg2 (gd m))) (grownBy_of_below hb4 (some P)); have c4 := hi4.rd) | (go_at_call 51; refine (scan_ok (blanks_s hi4) HB.out).mono ?_; rintro e w5 ⟨rfl, hg5, hi5⟩) | (go_at_call_of 56 (Value.int IntKind.i32 63); refine (scan_bad (sign_s 63 hi5) HS1.out).mono ?_; rintro e w6 ⟨rfl, hg6, kk, hp⟩))
            exact ⟨rfl, rfl, grownBy_trans hg4 (grownBy_trans hg5 hg6), kk, hp⟩
        · rw [if_pos rfl]
          go_enter Tryd.func58, Tryd.ntmps58
          go_wp2_with (first | (go_at_call 41; refine hTk.mono ?_; rintro e w1 ⟨rfl, hg1, hi1⟩; have c1 := hi1.rd) | (go_at_call 72; refine (scan_ok (name_s hi1 hT) HN.out).mono ?_; rintro e w2 ⟨rfl, hg2, hi2⟩) | (go_at_call 40; refine (peek_t hi2 hok2).mono ?_; rintro e w3 ⟨rfl, m, rfl⟩) | (go_at_call 73; refine (fold_nm hi1 HN.out _ ((HTB.out.far (grownBy_trans hg1 (grownBy_trans hg2 (gd _))) hP'))).mono ?_; rw [hf]; rintro e w4 ⟨rfl, hb4⟩; have hi4 := (hi2.drewN m).below hb4 (hi2.drewN m).ps.lt (hi2.drewN m).gb; have hg4 := grownBy_trans (grownBy_trans hg1 (grownBy_trans hg2 (gd m))) (grownBy_of_below hb4 (some P)); have c4 := hi4.rd) | (go_at_call 51; refine (scan_ok (blanks_s hi4) HB.out).mono ?_; rintro e w5 ⟨rfl, hg5, hi5⟩))
          go_loopg [4] (l.length + 1) (fun n v4 wr => ∃ (j : Nat) (a : Bool), v4 = .bool a ∧ w.grownBy wr (some P) ∧ In P wr { v with k := (j : Int) } l j ∧ l.length - j + 1 ≤ n ∧ Hid (instL n l a j = instL (l.length + 1) l false k3))
          case atStart => exact ⟨k3, false, rfl, grownBy_trans hg4 hg5, hi5, by omega, rfl⟩
          case round =>
            obtain ⟨j, a, rfl, hg, hi, hn, HF⟩ := hrel
            obtain ⟨n, rfl⟩ : ∃ n, gk = n + 1 := ⟨gk - 1, by omega⟩
            have hjl := hi.kl
            cases hokj : okl l j
            · have HR : Hid (instL (l.length + 1) l false k3 = .bad j 2) := by rw [← HF.out]; exact inL_f hokj
              go_wp2_with (first | (go_at_call 41; refine (take_f hi hokj).mono ?_; rintro e w' ⟨rfl, hg6, kk, hp⟩))
              refine ⟨rfl, ?_⟩
              rw [HR.out]
              exact ⟨rfl, grownBy_trans hg hg6, kk, hp⟩
            · have hpos := ln_pos hokj
              by_cases hend : a = true ∧ lt l j = 62
              · have HR : Hid (instL (l.length + 1) l false k3 = .ok () (j + ln l j)) := by rw [← HF.out, instL, takeS_t hokj, bind_ok, if_pos hend]; exact rfl
                obtain ⟨rfl, h62⟩ := hend
                go_wp2_with (first | (go_at_call 41; refine (take_t hi hokj).mono ?_; rintro e w' ⟨rfl, hg6, hi6⟩))
                go_end0
                rw [HR.out]
                exact ⟨rfl, grownBy_trans hg hg6, hi6⟩
              · have HS : Hid (instL n l (lt l j == 63) (j + ln l j) = instL (l.length + 1) l false k3) := by rw [← HF.out, instL, takeS_t hokj, bind_ok, if_neg hend]; exact rfl
                cases a
                · clear hend
                  go_wp2_with (first | (go_at_call 41; refine (take_t hi hokj).mono ?_; rintro e w' ⟨rfl, hg6, hi6⟩))
                  go_roundg n
                  case measure => omega
                  case rel => exact ⟨j + ln l j, _, rfl, grownBy_trans hg hg6, hi6, by have := hi6.kl; omega, HS⟩
                · have h62b : (lt l j == 62) = false := beq_eq_false_iff_ne.2 (fun e => hend ⟨rfl, e⟩)
                  clear hend
                  go_wp2_with (first | (go_at_call 41; refine (take_t hi hokj).mono ?_; rintro e w' ⟨rfl, hg6, hi6⟩))
                  go_roundg n
                  case measure => omega
                  case rel => exact ⟨j + ln l j, _, rfl, grownBy_trans hg hg6, hi6, by have := hi6.kl; omega, HS⟩
      · rw [bind_bad]
        have HB : Hid _ := hb
        clear hb
        go_enter Tryd.func58, Tryd.ntmps58
        go_wp2_with (first | (go_at_call 41; refine hTk.mono ?_; rintro e w1 ⟨rfl, hg1, hi1⟩; have c1 := hi1.rd) | (go_at_call 72; refine (scan_ok (name_s hi1 hT) HN.out).mono ?_; rintro e w2 ⟨rfl, hg2, hi2⟩) | (go_at_call 40; refine (peek_t hi2 hok2).mono ?_; rintro e w3 ⟨rfl, m, rfl⟩) | (go_at_call 73; refine (fold_nm hi1 HN.out _ ((HTB.out.far (grownBy_trans hg1 (grownBy_trans hg2 (gd _))) hP'))).mono ?_; rw [hf]; rintro e w4 ⟨rfl, hb4⟩; have hi4 := (hi2.drewN m).below hb4 (hi2.drewN m).ps.lt (hi2.drewN m).gb; have hg4 := grownBy_trans (grownBy_trans hg1 (grownBy_trans hg2 (gd m))) (grownBy_of_below hb4 (some P)); have c4 := hi4.rd) | (go_at_call 51; refine (scan_bad (blanks_s hi4) HB.out).mono ?_; rintro e w5 ⟨rfl, hg5, kk, hp⟩))
        exact ⟨rfl, rfl, grownBy_trans hg4 hg5, kk, hp⟩
    · rw [if_pos rfl]
      go_enter Tryd.func58, Tryd.ntmps58
      go_wp2_with (first | (go_at_call 41; refine hTk.mono ?_; rintro e w1 ⟨rfl, hg1, hi1⟩; have c1 := hi1.rd) | (go_at_call 72; refine (scan_ok (name_s hi1 hT) HN.out).mono ?_; rintro e w2 ⟨rfl, hg2, hi2⟩) | (go_at_call 40; refine (peek_t hi2 hok2).mono ?_; rintro e w3 ⟨rfl, m, rfl⟩) | (go_at_call 73; refine (fold_nm hi1 HN.out _ ((HTB.out.far (grownBy_trans hg1 (grownBy_trans hg2 (gd _))) hP'))).mono ?_; rw [hf]; rintro e w4 ⟨rfl, hb4⟩; have hi4 := (hi2.drewN m).below hb4 (hi2.drewN m).ps.lt (hi2.drewN m).gb; have hg4 := grownBy_trans (grownBy_trans hg1 (grownBy_trans hg2 (gd m))) (grownBy_of_below hb4 (some P)); have c4 := hi4.rd) | (go_at_call 47; refine (fail_any _ _ _).mono ?_; rintro e w' ⟨rfl, rfl⟩))
      exact ⟨rfl, rfl, hg4, _, hi4.ps⟩
  · rw [bind_bad]
    go_enter Tryd.func58, Tryd.ntmps58
    go_wp2_with (first | (go_at_call 41; refine hTk.mono ?_; rintro e w1 ⟨rfl, hg1, hi1⟩; have c1 := hi1.rd) | (go_at_call 72; refine (scan_bad (name_s hi1 hT) hn).mono ?_; rintro e w2 ⟨rfl, hg2, kk, hp⟩))
    exact ⟨rfl, rfl, grownBy_trans hg1 hg2, kk, hp⟩
end Go.Proofs.YtjcgnbmpnaapdaaDoor
