/- The contracts of note and instruction. -/
import Derived.Test.YtjcgnbmpnaapdaaDoorFold
import Derived.Test.YtjcgnbmpnaapdaaDoorNam
namespace Go.Proofs.YtjcgnbmpnaapdaaDoor
open Go.RowKit
set_option linter.unusedVariables false

set_option maxHeartbeats 1600000 in
theorem note_s {P k : Nat} {v : PV} {l : Bs} {w : World} (lt0 : Int) (h : In P w v l k) : Calls Tryd.prog 59 #[pp P, .int .i64 lt0] w (Scan P w v l ret0 (noteS l lt0 k)) := by
  rw [noteS]
  rcases hw : wordS l lt0 [45, 45] k with ⟨_, k1⟩ | ⟨p, er⟩
  · rw [bind_ok]
    go_enter Tryd.func59, Tryd.ntmps59
    go_wp2_with (first | (go_at_call 66; refine (scan_ok (word_c #[45, 45] _ [45, 45] (by decide) rfl h) hw).mono ?_; rintro e w1 ⟨rfl, hg1, hi1⟩))
    go_loopg [4] (l.length + 1) (fun n v4 wr => ∃ (j d : Nat), v4 = .int .i64 d ∧ d ≤ 2 ∧ w.grownBy wr (some P) ∧ In P wr { v with k := (j : Int) } l j ∧ l.length - j + 1 ≤ n ∧ Hid (noteL n l d j = noteL (l.length + 1) l 0 k1))
    case atStart => exact ⟨k1, 0, rfl, by omega, hg1, hi1, by omega, rfl⟩
    case round =>
      obtain ⟨j, d, rfl, hd, hg, hi, hn, HF⟩ := hrel
      obtain ⟨n, rfl⟩ : ∃ n, gk = n + 1 := ⟨gk - 1, by omega⟩
      have hjl := hi.kl
      have hll := hi.ll
      have c1 := hi.rd
      cases hok : okl l j
      · have HR : Hid (noteL (l.length + 1) l 0 k1 = .bad j 2) := by rw [← HF.out, noteL, takeS_f hok]; exact rfl
        go_wp2_with (first | (go_at_call 41; refine (take_f hi hok).mono ?_; rintro e w' ⟨rfl, hg2, kk, hp⟩))
        refine ⟨rfl, ?_⟩
        rw [HR.out]
        exact ⟨rfl, grownBy_trans hg hg2, kk, hp⟩
      · have hpos := ln_pos hok
        by_cases hd2 : d = 2
        · subst hd2
          by_cases h62 : lt l j = 62
          · have HR : Hid (noteL (l.length + 1) l 0 k1 = .ok () (j + ln l j)) := by rw [← HF.out, noteL, takeS_t hok, bind_ok, if_pos rfl, if_pos h62]; exact rfl
            go_wp2_with (first | (go_at_call 41; refine (take_t hi hok).mono ?_; rintro e w' ⟨rfl, hg2, hi2⟩))
            go_end0
            rw [HR.out]
            exact ⟨rfl, grownBy_trans hg hg2, hi2⟩
          · have HR : Hid (noteL (l.length + 1) l 0 k1 = .bad ((j : Int) - 2) 2) := by rw [← HF.out, noteL, takeS_t hok, bind_ok, if_pos rfl, if_neg h62]; exact rfl
            have h62b : (lt l j == 62) = false := by simp [h62]
            clear h62
            go_wp2_with (first | (go_at_call 41; refine (take_t hi hok).mono ?_; rintro e w' ⟨rfl, hg2, hi2⟩) | (go_at_call 47; refine (fail_any _ _ _).mono ?_; rintro e w' ⟨rfl, rfl⟩))
            refine ⟨rfl, ?_⟩
            rw [HR.out]
            exact ⟨rfl, grownBy_trans hg hg2, _, hi2.ps⟩
        · have hd2b : ((d : Int) == 2) = false := beq_eq_false_iff_ne.2 (by omega)
          by_cases h45 : lt l j = 45
          · have HS : Hid (noteL n l (d + 1) (j + ln l j) = noteL (l.length + 1) l 0 k1) := by rw [← HF.out, noteL, takeS_t hok, bind_ok, if_neg hd2, if_pos h45]; exact rfl
            have hd3 : d + 1 ≤ 2 := by omega
            clear hd2
            go_wp2_with (first | (go_at_call 41; refine (take_t hi hok).mono ?_; rintro e w' ⟨rfl, hg2, hi2⟩))
            go_roundg n
            case measure => omega
            case rel => exact ⟨j + ln l j, d + 1, by go_num, hd3, grownBy_trans hg hg2, hi2, by have := hi2.kl; omega, HS⟩
          · have HS : Hid (noteL n l 0 (j + ln l j) = noteL (l.length + 1) l 0 k1) := by rw [← HF.out, noteL, takeS_t hok, bind_ok, if_neg hd2, if_neg h45]; exact rfl
            have h45b : (lt l j == 45) = false := by simp [h45]
            clear hd2 h45
            go_wp2_with (first | (go_at_call 41; refine (take_t hi hok).mono ?_; rintro e w' ⟨rfl, hg2, hi2⟩))
            go_roundg n
            case measure => omega
            case rel => exact ⟨j + ln l j, 0, rfl, by omega, grownBy_trans hg hg2, hi2, by have := hi2.kl; omega, HS⟩
  · rw [bind_bad]
    go_enter Tryd.func59, Tryd.ntmps59
    go_wp2_with (first | (go_at_call 66; refine (scan_bad (word_c #[45, 45] _ [45, 45] (by decide) rfl h) hw).mono ?_; rintro e w1 ⟨rfl, hg1, kk, hp⟩))
    exact ⟨rfl, rfl, hg1, kk, hp⟩
end Go.Proofs.YtjcgnbmpnaapdaaDoor
namespace Go.Proofs.YtjcgnbmpnaapdaaDoor
open Go.RowKit
set_option linter.unusedVariables false

theorem sb_size (l : Bs) : (sb l).size = l.length := by
  unfold sb
  show (l.map _).toArray.size = _
  simp
theorem sub_len' (l : Bs) (k j : Nat) : (sub l k j).length ≤ l.length := by
  unfold sub
  simp
  omega
theorem fold_nm {P k k2 : Nat} {v : PV} {l nm : Bs} {w : World} {T : Int} (h : In P w v l k) (hn : nameS l T k = .ok nm k2) (W : World) (ht : Tab W) :
    Calls Tryd.prog 73 #[.string (sb nm), .string ⟨#[120, 109, 108]⟩] W fun e w' => e = .returned (.bool (foldX nm)) ∧ Below W.heap.size W w' := by
  have h1 := (nameS_ok hn).1
  have hb : ∀ i, 0 ≤ nm.getD i 0 ∧ nm.getD i 0 < 256 := by rw [h1]; exact sub_bd h.br.2
  have := equalFold_any (sb nm) W (by rw [sb_size, h1]; have := sub_len' l k k2; have := h.ll; omega) ht
  rw [bl_sb nm hb] at this
  exact this
theorem inL_f {n : Nat} {l : Bs} {a : Bool} {j : Nat} (hok : okl l j = false) : instL (n + 1) l a j = .bad j 2 := by rw [instL, takeS_f hok]; rfl

set_option maxHeartbeats 1600000 in
theorem inst_s {P k : Nat} {v : PV} {l : Bs} {w : World} (h : In P w v l k) (hT : 0 ≤ v.t ∧ v.t ≤ 65536) (hP : P ≠ 0) (ht : Tab w) : Calls Tryd.prog 58 #[pp P] w (Scan P w v l ret0 (instS l v.t k)) := by
  have hP' : some P ≠ some 0 := by simpa using hP
  cases hok : okl l k
  · rw [instS, takeS_f hok, bind_bad]
    go_enter Tryd.func58, Tryd.ntmps58
    go_wp2_with (go_at_call 41; refine (take_f h hok).mono ?_; rintro e w' ⟨rfl, hg, kk, hp⟩)
    exact ⟨rfl, rfl, hg, kk, hp⟩
  rw [instS, takeS_t hok, bind_ok]
  generalize hk1 : k + ln l k = k1
  have hTk := take_t h hok
  rw [hk1] at hTk
  clear hk1
  have HTB : Hid _ := ht
  clear ht
  rcases hn : nameS l v.t k1 with ⟨nm, k2⟩ | ⟨p, er⟩
  · rw [bind_ok]
    have HN : Hid (nameS l v.t k1 = .ok nm k2) := hn
    clear hn
    cases hok2 : okl l k2
    · rw [peekS_f hok2, bind_bad]
      go_enter Tryd.func58, Tryd.ntmps58
      go_wp2_with (first | (go_at_call 41; refine hTk.mono ?_; rintro e w1 ⟨rfl, hg1, hi1⟩; have c1 := hi1.rd) | (go_at_call 72; refine (scan_ok (name_s hi1 hT) HN.out).mono ?_; rintro e w2 ⟨rfl, hg2, hi2⟩) | (go_at_call 40; refine (peek_f hi2 hok2).mono ?_; rintro e w3 ⟨rfl, m, rfl⟩))
      exact ⟨rfl, rfl, grownBy_trans hg1 (grownBy_trans hg2 (gd _)), _, hi2.ps⟩
    rw [peekS_t hok2, bind_ok]
    cases hf : foldX nm
    · rw [if_neg (by simp)]
      rcases hb : blanksS l k2 with ⟨gap, k3⟩ | ⟨p, er⟩
      · rw [bind_ok]
        have HB : Hid (blanksS l k2 = .ok gap k3) := hb
        clear hb
        cases gap
        · rw [if_neg (by simp)]
          rcases hs1 : signS l 63 k3 with ⟨_, k4⟩ | ⟨p, er⟩
          · rw [bind_ok]
            have HS1 : Hid _ := hs1
            clear hs1
            rcases hs2 : signS l 62 k4 with ⟨_, k5⟩ | ⟨p, er⟩
            · have HS2 : Hid _ := hs2
              clear hs2
              go_enter Tryd.func58, Tryd.ntmps58
              go_wp2_with (first | (go_at_call 41; refine hTk.mono ?_; rintro e w1 ⟨rfl, hg1, hi1⟩; have c1 := hi1.rd) | (go_at_call 72; refine (scan_ok (name_s hi1 hT) HN.out).mono ?_; rintro e w2 ⟨rfl, hg2, hi2⟩) | (go_at_call 40; refine (peek_t hi2 hok2).mono ?_; rintro e w3 ⟨rfl, m, rfl⟩) | (go_at_call 73; refine (fold_nm hi1 HN.out _ ((HTB.out.far (grownBy_trans hg1 (grownBy_trans hg2 (gd _))) hP'))).mono ?_; rw [hf]; rintro e w4 ⟨rfl, hb4⟩; have hi4 := (hi2.drewN m).below hb4 (hi2.drewN m).ps.lt (hi2.drewN m).gb; have hg4 := grownBy_trans (grownBy_trans hg1 (grownBy_trans hg2 (gd m))) (grownBy_of_below hb4 (some P)); have c4 := hi4.rd) | (go_at_call 51; refine (scan_ok (blanks_s hi4) HB.out).mono ?_; rintro e w5 ⟨rfl, hg5, hi5⟩) | (go_at_call_of 56 (Value.int IntKind.i32 63); refine (scan_ok (sign_s 63 hi5) HS1.out).mono ?_; rintro e w6 ⟨rfl, hg6, hi6⟩) | (go_at_call_of 56 (Value.int IntKind.i32 62); refine (scan_ok (sign_s 62 hi6) HS2.out).mono ?_; rintro e w7 ⟨rfl, hg7, hi7⟩))
              go_end0
              exact ⟨rfl, grownBy_trans hg4 (grownBy_trans hg5 (grownBy_trans hg6 hg7)), hi7⟩
            · have HS2 : Hid _ := hs2
              clear hs2
              go_enter Tryd.func58, Tryd.ntmps58
              go_wp2_with (first | (go_at_call 41; refine hTk.mono ?_; rintro e w1 ⟨rfl, hg1, hi1⟩; have c1 := hi1.rd) | (go_at_call 72; refine (scan_ok (name_s hi1 hT) HN.out).mono ?_; rintro e w2 ⟨rfl, hg2, hi2⟩) | (go_at_call 40; refine (peek_t hi2 hok2).mono ?_; rintro e w3 ⟨rfl, m, rfl⟩) | (go_at_call 73; refine (fold_nm hi1 HN.out _ ((HTB.out.far (grownBy_trans hg1 (grownBy_trans hg2 (gd _))) hP'))).mono ?_; rw [hf]; rintro e w4 ⟨rfl, hb4⟩; have hi4 := (hi2.drewN m).below hb4 (hi2.drewN m).ps.lt (hi2.drewN m).gb; have hg4 := grownBy_trans (grownBy_trans hg1 (grownBy_trans hg2 (gd m))) (grownBy_of_below hb4 (some P)); have c4 := hi4.rd) | (go_at_call 51; refine (scan_ok (blanks_s hi4) HB.out).mono ?_; rintro e w5 ⟨rfl, hg5, hi5⟩) | (go_at_call_of 56 (Value.int IntKind.i32 63); refine (scan_ok (sign_s 63 hi5) HS1.out).mono ?_; rintro e w6 ⟨rfl, hg6, hi6⟩) | (go_at_call_of 56 (Value.int IntKind.i32 62); refine (scan_bad (sign_s 62 hi6) HS2.out).mono ?_; rintro e w7 ⟨rfl, hg7, kk, hp⟩))
              exact ⟨rfl, rfl, grownBy_trans hg4 (grownBy_trans hg5 (grownBy_trans hg6 hg7)), kk, hp⟩
          · rw [bind_bad]
            have HS1 : Hid _ := hs1
            clear hs1
            go_enter Tryd.func58, Tryd.ntmps58
            go_wp2_with (first | (go_at_call 41; refine hTk.mono ?_; rintro e w1 ⟨rfl, hg1, hi1⟩; have c1 := hi1.rd) | (go_at_call 72; refine (scan_ok (name_s hi1 hT) HN.out).mono ?_; rintro e w2 ⟨rfl, hg2, hi2⟩) | (go_at_call 40; refine (peek_t hi2 hok2).mono ?_; rintro e w3 ⟨rfl, m, rfl⟩) | (go_at_call 73; refine (fold_nm hi1 HN.out _ ((HTB.out.far (grownBy_trans hg1 (grownBy_trans hg2 (gd _))) hP'))).mono ?_; rw [hf]; rintro e w4 ⟨rfl, hb4⟩; have hi4 := (hi2.drewN m).below hb4 (hi2.drewN m).ps.lt (hi2.drewN m).gb; have hg4 := grownBy_trans (grownBy_trans hg1 (grownBy_trans hg2 (gd m))) (grownBy_of_below hb4 (some P)); have c4 := hi4.rd) | (go_at_call 51; refine (scan_ok (blanks_s hi4) HB.out).mono ?_; rintro e w5 ⟨rfl, hg5, hi5⟩) | (go_at_call_of 56 (Value.int IntKind.i32 63); refine (scan_bad (sign_s 63 hi5) HS1.out).mono ?_; rintro e w6 ⟨rfl, hg6, kk, hp⟩))
            exact ⟨rfl, rfl, grownBy_trans hg4 (grownBy_trans hg5 hg6), kk, hp⟩
        · rw [if_pos rfl]
          go_enter Tryd.func58, Tryd.ntmps58
          go_wp2_with (first | (go_at_call 41; refine hTk.mono ?_; rintro e w1 ⟨rfl, hg1, hi1⟩; have c1 := hi1.rd) | (go_at_call 72; refine (scan_ok (name_s hi1 hT) HN.out).mono ?_; rintro e w2 ⟨rfl, hg2, hi2⟩) | (go_at_call 40; refine (peek_t hi2 hok2).mono ?_; rintro e w3 ⟨rfl, m, rfl⟩) | (go_at_call 73; refine (fold_nm hi1 HN.out _ ((HTB.out.far (grownBy_trans hg1 (grownBy_trans hg2 (gd _))) hP'))).mono ?_; rw [hf]; rintro e w4 ⟨rfl, hb4⟩; have hi4 := (hi2.drewN m).below hb4 (hi2.drewN m).ps.lt (hi2.drewN m).gb; have hg4 := grownBy_trans (grownBy_trans hg1 (grownBy_trans hg2 (gd m))) (grownBy_of_below hb4 (some P)); have c4 := hi4.rd) | (go_at_call 51; refine (scan_ok (blanks_s hi4) HB.out).mono ?_; rintro e w5 ⟨rfl, hg5, hi5⟩))
          go_loopg [4] (l.length + 1) (fun n v4 wr => ∃ (j : Nat) (a : Bool), v4 = .bool a ∧ w.grownBy wr (some P) ∧ In P wr { v with k := (j : Int) } l j ∧ l.length - j + 1 ≤ n ∧ Hid (instL n l a j = instL (l.length + 1) l false k3))
          case atStart => exact ⟨k3, false, rfl, grownBy_trans hg4 hg5, hi5, by omega, rfl⟩
          case round =>
            obtain ⟨j, a, rfl, hg, hi, hn, HF⟩ := hrel
            obtain ⟨n, rfl⟩ : ∃ n, gk = n + 1 := ⟨gk - 1, by omega⟩
            have hjl := hi.kl
            cases hokj : okl l j
            · have HR : Hid (instL (l.length + 1) l false k3 = .bad j 2) := by rw [← HF.out]; exact inL_f hokj
              go_wp2_with (first | (go_at_call 41; refine (take_f hi hokj).mono ?_; rintro e w' ⟨rfl, hg6, kk, hp⟩))
              refine ⟨rfl, ?_⟩
              rw [HR.out]
              exact ⟨rfl, grownBy_trans hg hg6, kk, hp⟩
            · have hpos := ln_pos hokj
              by_cases hend : a = true ∧ lt l j = 62
              · have HR : Hid (instL (l.length + 1) l false k3 = .ok () (j + ln l j)) := by rw [← HF.out, instL, takeS_t hokj, bind_ok, if_pos hend]; exact rfl
                obtain ⟨rfl, h62⟩ := hend
                go_wp2_with (first | (go_at_call 41; refine (take_t hi hokj).mono ?_; rintro e w' ⟨rfl, hg6, hi6⟩))
                go_end0
                rw [HR.out]
                exact ⟨rfl, grownBy_trans hg hg6, hi6⟩
              · have HS : Hid (instL n l (lt l j == 63) (j + ln l j) = instL (l.length + 1) l false k3) := by rw [← HF.out, instL, takeS_t hokj, bind_ok, if_neg hend]; exact rfl
                cases a
                · clear hend
                  go_wp2_with (first | (go_at_call 41; refine (take_t hi hokj).mono ?_; rintro e w' ⟨rfl, hg6, hi6⟩))
                  go_roundg n
                  case measure => omega
                  case rel => exact ⟨j + ln l j, _, rfl, grownBy_trans hg hg6, hi6, by have := hi6.kl; omega, HS⟩
                · have h62b : (lt l j == 62) = false := beq_eq_false_iff_ne.2 (fun e => hend ⟨rfl, e⟩)
                  clear hend
                  go_wp2_with (first | (go_at_call 41; refine (take_t hi hokj).mono ?_; rintro e w' ⟨rfl, hg6, hi6⟩))
                  go_roundg n
                  case measure => omega
                  case rel => exact ⟨j + ln l j, _, rfl, grownBy_trans hg hg6, hi6, by have := hi6.kl; omega, HS⟩
      · rw [bind_bad]
        have HB : Hid _ := hb
        clear hb
        go_enter Tryd.func58, Tryd.ntmps58
        go_wp2_with (first | (go_at_call 41; refine hTk.mono ?_; rintro e w1 ⟨rfl, hg1, hi1⟩; have c1 := hi1.rd) | (go_at_call 72; refine (scan_ok (name_s hi1 hT) HN.out).mono ?_; rintro e w2 ⟨rfl, hg2, hi2⟩) | (go_at_call 40; refine (peek_t hi2 hok2).mono ?_; rintro e w3 ⟨rfl, m, rfl⟩) | (go_at_call 73; refine (fold_nm hi1 HN.out _ ((HTB.out.far (grownBy_trans hg1 (grownBy_trans hg2 (gd _))) hP'))).mono ?_; rw [hf]; rintro e w4 ⟨rfl, hb4⟩; have hi4 := (hi2.drewN m).below hb4 (hi2.drewN m).ps.lt (hi2.drewN m).gb; have hg4 := grownBy_trans (grownBy_trans hg1 (grownBy_trans hg2 (gd m))) (grownBy_of_below hb4 (some P)); have c4 := hi4.rd) | (go_at_call 51; refine (scan_bad (blanks_s hi4) HB.out).mono ?_; rintro e w5 ⟨rfl, hg5, kk, hp⟩))
        exact ⟨rfl, rfl, grownBy_trans hg4 hg5, kk, hp⟩
    · rw [if_pos rfl]
      go_enter Tryd.func58, Tryd.ntmps58
      go_wp2_with (first | (go_at_call 41; refine hTk.mono ?_; rintro e w1 ⟨rfl, hg1, hi1⟩; have c1 := hi1.rd) | (go_at_call 72; refine (scan_ok (name_s hi1 hT) HN.out).mono ?_; rintro e w2 ⟨rfl, hg2, hi2⟩) | (go_at_call 40; refine (peek_t hi2 hok2).mono ?_; rintro e w3 ⟨rfl, m, rfl⟩) | (go_at_call 73; refine (fold_nm hi1 HN.out _ ((HTB.out.far (grownBy_trans hg1 (grownBy_trans hg2 (gd _))) hP'))).mono ?_; rw [hf]; rintro e w4 ⟨rfl, hb4⟩; have hi4 := (hi2.drewN m).below hb4 (hi2.drewN m).ps.lt (hi2.drewN m).gb; have hg4 := grownBy_trans (grownBy_trans hg1 (grownBy_trans hg2 (gd m))) (grownBy_of_below hb4 (some P)); have c4 := hi4.rd) | (go_at_call 47; refine (fail_any _ _ _).mono ?_; rintro e w' ⟨rfl, rfl⟩))
      exact ⟨rfl, rfl, hg4, _, hi4.ps⟩
  · rw [bind_bad]
    go_enter Tryd.func58, Tryd.ntmps58
    go_wp2_with (first | (go_at_call 41; refine hTk.mono ?_; rintro e w1 ⟨rfl, hg1, hi1⟩; have c1 := hi1.rd) | (go_at_call 72; refine (scan_bad (name_s hi1 hT) hn).mono ?_; rintro e w2 ⟨rfl, hg2, kk, hp⟩))
    exact ⟨rfl, rfl, grownBy_trans hg1 hg2, kk, hp⟩
end Go.Proofs.YtjcgnbmpnaapdaaDoor
namespace Go.Proofs.YtjcgnbmpnaapdaaDoor
open Go.RowKit
set_option linter.unusedVariables false

theorem ver_s {P k : Nat} {v : PV} {l : Bs} {w : World} (h : In P w v l k) : Calls Tryd.prog 53 #[pp P] w (Scan P w v l ret0 (verS l k)) := by
  have c1 := h.rd
  rw [verS]
  rcases hw : wordS l k [49, 46, 48] k with ⟨_, k1⟩ | ⟨p, er⟩
  · go_enter Tryd.func53, Tryd.ntmps53
    go_wp2_with (first | (go_at_call 66; refine (scan_ok (word_c #[49, 46, 48] _ [49, 46, 48] (by decide) rfl h) hw).mono ?_; rintro e w1 ⟨rfl, hg1, hi1⟩))
    go_end0
    exact ⟨rfl, hg1, hi1⟩
  · go_enter Tryd.func53, Tryd.ntmps53
    go_wp2_with (first | (go_at_call 66; refine (scan_bad (word_c #[49, 46, 48] _ [49, 46, 48] (by decide) rfl h) hw).mono ?_; rintro e w1 ⟨rfl, hg1, kk, hp⟩))
    exact ⟨rfl, rfl, hg1, kk, hp⟩
theorem sta_s {P k : Nat} {v : PV} {l : Bs} {w : World} (h : In P w v l k) : Calls Tryd.prog 55 #[pp P] w (Scan P w v l ret0 (staS l k)) := by
  have c1 := h.rd
  rw [staS]
  cases hok : okl l k
  · rw [peekS_f hok, bind_bad]
    go_enter Tryd.func55, Tryd.ntmps55
    go_wp2_with (go_at_call 40; refine (peek_f h hok).mono ?_; rintro e w' ⟨rfl, m, rfl⟩)
    exact ⟨rfl, rfl, gd m, v.k, h.ps⟩
  rw [peekS_t hok, bind_ok]
  by_cases h1 : lt l k = 110
  · rw [if_pos h1]
    rcases hw : wordS l k [110, 111] k with ⟨_, k1⟩ | ⟨p, er⟩
    · go_enter Tryd.func55, Tryd.ntmps55
      go_wp2_with (first | (go_at_call 40; refine (peek_t h hok).mono ?_; rintro e w' ⟨rfl, m, rfl⟩) | (go_at_call 66; refine (scan_ok (word_c #[110, 111] _ [110, 111] (by decide) rfl (h.drewN m)) hw).mono ?_; rintro e w1 ⟨rfl, hg1, hi1⟩))
      go_end0
      exact ⟨rfl, grownBy_trans (gd _) hg1, hi1⟩
    · go_enter Tryd.func55, Tryd.ntmps55
      go_wp2_with (first | (go_at_call 40; refine (peek_t h hok).mono ?_; rintro e w' ⟨rfl, m, rfl⟩) | (go_at_call 66; refine (scan_bad (word_c #[110, 111] _ [110, 111] (by decide) rfl (h.drewN m)) hw).mono ?_; rintro e w1 ⟨rfl, hg1, kk, hp⟩))
      exact ⟨rfl, rfl, grownBy_trans (gd _) hg1, kk, hp⟩
  · rw [if_neg h1]
    have h1b : (lt l k == 110) = false := by simp [h1]
    clear h1
    rcases hw : wordS l k [121, 101, 115] k with ⟨_, k1⟩ | ⟨p, er⟩
    · go_enter Tryd.func55, Tryd.ntmps55
      go_wp2_with (first | (go_at_call 40; refine (peek_t h hok).mono ?_; rintro e w' ⟨rfl, m, rfl⟩) | (go_at_call 66; refine (scan_ok (word_c #[121, 101, 115] _ [121, 101, 115] (by decide) rfl (h.drewN m)) hw).mono ?_; rintro e w1 ⟨rfl, hg1, hi1⟩))
      go_end0
      exact ⟨rfl, grownBy_trans (gd _) hg1, hi1⟩
    · go_enter Tryd.func55, Tryd.ntmps55
      go_wp2_with (first | (go_at_call 40; refine (peek_t h hok).mono ?_; rintro e w' ⟨rfl, m, rfl⟩) | (go_at_call 66; refine (scan_bad (word_c #[121, 101, 115] _ [121, 101, 115] (by decide) rfl (h.drewN m)) hw).mono ?_; rintro e w1 ⟨rfl, hg1, kk, hp⟩))
      exact ⟨rfl, rfl, grownBy_trans (gd _) hg1, kk, hp⟩
def encW : List (Int × Int) := [(85, 117), (84, 116), (70, 102), (45, 45), (56, 56)]
set_option maxRecDepth 20000 in
set_option maxHeartbeats 1600000 in
theorem enc_s {P k : Nat} {v : PV} {l : Bs} {w : World} (h : In P w v l k) : Calls Tryd.prog 54 #[pp P] w (Scan P w v l ret0 (encS l k)) := by
  have c1 := h.rd
  rw [encS]
  go_enter Tryd.func54, Tryd.ntmps54
  go_wp2
  go_loopg [9] 5 (fun n v9 wr => ∃ i j : Nat, i + n = 5 ∧ v9 = .int .i64 i ∧ w.grownBy wr (some P) ∧ In P wr { v with k := (j : Int) } l j ∧ Hid (encL l k (encW.drop i) j = encL l k encW k))
  case atStart => exact ⟨0, k, by omega, rfl, World.grownBy.refl _ _, h.self, rfl⟩
  case round =>
    obtain ⟨i, j, hin, rfl, hg, hi, HF⟩ := hrel
    by_cases hi5 : i < 5
    · cases hok : okl l j
      · have HR : Hid (encL l k encW k = .bad j 2) := by
          rw [← HF.out]
          rcases (by omega : i = 0 ∨ i = 1 ∨ i = 2 ∨ i = 3 ∨ i = 4) with rfl | rfl | rfl | rfl | rfl <;> (show encL l k (_ :: _) j = _; rw [encL, takeS_f hok]; rfl)
        go_wp2_with (first | (go_at_call 41; refine (take_f hi hok).mono ?_; rintro e w' ⟨rfl, hg2, kk, hp⟩))
        refine ⟨rfl, ?_⟩
        show Scan P w v l ret0 (encL l k encW k) _ _
        rw [HR.out]
        exact ⟨rfl, grownBy_trans hg hg2, kk, hp⟩
      · rcases (by omega : i = 0 ∨ i = 1 ∨ i = 2 ∨ i = 3 ∨ i = 4) with rfl | rfl | rfl | rfl | rfl
        · have t0 : (((⟨#[85, 84, 70, 45, 56]⟩ : ByteArray)[0]).toNat : Int) = 85 := rfl
          have t1 : (((⟨#[117, 116, 102, 45, 56]⟩ : ByteArray)[0]).toNat : Int) = 117 := rfl
          by_cases hr : lt l j = 85 ∨ lt l j = 117
          · have HS : Hid (encL l k (encW.drop (0 + 1)) (j + ln l j) = encL l k encW k) := by
              rw [← HF.out]
              show _ = encL l k ((85, 117) :: encW.drop (0 + 1)) j
              rw [encL, takeS_t hok, bind_ok, if_pos hr]
            rcases hr with hr | hr
            all_goals
              go_wp2_with (first | (go_at_call 41; refine (take_t hi hok).mono ?_; rintro e w' ⟨rfl, hg2, hi2⟩))
              go_roundg 4
              case measure => omega
              case rel => exact ⟨1, j + ln l j, by omega, rfl, grownBy_trans hg hg2, hi2, HS⟩
          · have HR : Hid (encL l k encW k = .bad k 2) := by
              rw [← HF.out]
              show encL l k ((85, 117) :: encW.drop (0 + 1)) j = _
              rw [encL, takeS_t hok, bind_ok, if_neg hr]
            have n1 : (lt l j != 85) = true := by simp; exact fun e => hr (.inl e)
            have n2 : (lt l j != 117) = true := by simp; exact fun e => hr (.inr e)
            clear hr
            go_wp2_with (first | (go_at_call 41; refine (take_t hi hok).mono ?_; rintro e w' ⟨rfl, hg2, hi2⟩) | (go_at_call 47; refine (fail_any _ _ _).mono ?_; rintro e w' ⟨rfl, rfl⟩))
            refine ⟨rfl, ?_⟩
            show Scan P w v l ret0 (encL l k encW k) _ _
            rw [HR.out]
            exact ⟨rfl, grownBy_trans hg hg2, _, hi2.ps⟩
        · have t0 : (((⟨#[85, 84, 70, 45, 56]⟩ : ByteArray)[1]).toNat : Int) = 84 := rfl
          have t1 : (((⟨#[117, 116, 102, 45, 56]⟩ : ByteArray)[1]).toNat : Int) = 116 := rfl
          by_cases hr : lt l j = 84 ∨ lt l j = 116
          · have HS : Hid (encL l k (encW.drop (1 + 1)) (j + ln l j) = encL l k encW k) := by
              rw [← HF.out]
              show _ = encL l k ((84, 116) :: encW.drop (1 + 1)) j
              rw [encL, takeS_t hok, bind_ok, if_pos hr]
            rcases hr with hr | hr
            all_goals
              go_wp2_with (first | (go_at_call 41; refine (take_t hi hok).mono ?_; rintro e w' ⟨rfl, hg2, hi2⟩))
              go_roundg 3
              case measure => omega
              case rel => exact ⟨2, j + ln l j, by omega, rfl, grownBy_trans hg hg2, hi2, HS⟩
          · have HR : Hid (encL l k encW k = .bad k 2) := by
              rw [← HF.out]
              show encL l k ((84, 116) :: encW.drop (1 + 1)) j = _
              rw [encL, takeS_t hok, bind_ok, if_neg hr]
            have n1 : (lt l j != 84) = true := by simp; exact fun e => hr (.inl e)
            have n2 : (lt l j != 116) = true := by simp; exact fun e => hr (.inr e)
            clear hr
            go_wp2_with (first | (go_at_call 41; refine (take_t hi hok).mono ?_; rintro e w' ⟨rfl, hg2, hi2⟩) | (go_at_call 47; refine (fail_any _ _ _).mono ?_; rintro e w' ⟨rfl, rfl⟩))
            refine ⟨rfl, ?_⟩
            show Scan P w v l ret0 (encL l k encW k) _ _
            rw [HR.out]
            exact ⟨rfl, grownBy_trans hg hg2, _, hi2.ps⟩
        · have t0 : (((⟨#[85, 84, 70, 45, 56]⟩ : ByteArray)[2]).toNat : Int) = 70 := rfl
          have t1 : (((⟨#[117, 116, 102, 45, 56]⟩ : ByteArray)[2]).toNat : Int) = 102 := rfl
          by_cases hr : lt l j = 70 ∨ lt l j = 102
          · have HS : Hid (encL l k (encW.drop (2 + 1)) (j + ln l j) = encL l k encW k) := by
              rw [← HF.out]
              show _ = encL l k ((70, 102) :: encW.drop (2 + 1)) j
              rw [encL, takeS_t hok, bind_ok, if_pos hr]
            rcases hr with hr | hr
            all_goals
              go_wp2_with (first | (go_at_call 41; refine (take_t hi hok).mono ?_; rintro e w' ⟨rfl, hg2, hi2⟩))
              go_roundg 2
              case measure => omega
              case rel => exact ⟨3, j + ln l j, by omega, rfl, grownBy_trans hg hg2, hi2, HS⟩
          · have HR : Hid (encL l k encW k = .bad k 2) := by
              rw [← HF.out]
              show encL l k ((70, 102) :: encW.drop (2 + 1)) j = _
              rw [encL, takeS_t hok, bind_ok, if_neg hr]
            have n1 : (lt l j != 70) = true := by simp; exact fun e => hr (.inl e)
            have n2 : (lt l j != 102) = true := by simp; exact fun e => hr (.inr e)
            clear hr
            go_wp2_with (first | (go_at_call 41; refine (take_t hi hok).mono ?_; rintro e w' ⟨rfl, hg2, hi2⟩) | (go_at_call 47; refine (fail_any _ _ _).mono ?_; rintro e w' ⟨rfl, rfl⟩))
            refine ⟨rfl, ?_⟩
            show Scan P w v l ret0 (encL l k encW k) _ _
            rw [HR.out]
            exact ⟨rfl, grownBy_trans hg hg2, _, hi2.ps⟩
        · have t0 : (((⟨#[85, 84, 70, 45, 56]⟩ : ByteArray)[3]).toNat : Int) = 45 := rfl
          have t1 : (((⟨#[117, 116, 102, 45, 56]⟩ : ByteArray)[3]).toNat : Int) = 45 := rfl
          by_cases hr : lt l j = 45 ∨ lt l j = 45
          · have HS : Hid (encL l k (encW.drop (3 + 1)) (j + ln l j) = encL l k encW k) := by
              rw [← HF.out]
              show _ = encL l k ((45, 45) :: encW.drop (3 + 1)) j
              rw [encL, takeS_t hok, bind_ok, if_pos hr]
            rcases hr with hr | hr
            all_goals
              go_wp2_with (first | (go_at_call 41; refine (take_t hi hok).mono ?_; rintro e w' ⟨rfl, hg2, hi2⟩))
              go_roundg 1
              case measure => omega
              case rel => exact ⟨4, j + ln l j, by omega, rfl, grownBy_trans hg hg2, hi2, HS⟩
          · have HR : Hid (encL l k encW k = .bad k 2) := by
              rw [← HF.out]
              show encL l k ((45, 45) :: encW.drop (3 + 1)) j = _
              rw [encL, takeS_t hok, bind_ok, if_neg hr]
            have n1 : (lt l j != 45) = true := by simp; exact fun e => hr (.inl e)
            have n2 : (lt l j != 45) = true := by simp; exact fun e => hr (.inr e)
            clear hr
            go_wp2_with (first | (go_at_call 41; refine (take_t hi hok).mono ?_; rintro e w' ⟨rfl, hg2, hi2⟩) | (go_at_call 47; refine (fail_any _ _ _).mono ?_; rintro e w' ⟨rfl, rfl⟩))
            refine ⟨rfl, ?_⟩
            show Scan P w v l ret0 (encL l k encW k) _ _
            rw [HR.out]
            exact ⟨rfl, grownBy_trans hg hg2, _, hi2.ps⟩
        · have t0 : (((⟨#[85, 84, 70, 45, 56]⟩ : ByteArray)[4]).toNat : Int) = 56 := rfl
          have t1 : (((⟨#[117, 116, 102, 45, 56]⟩ : ByteArray)[4]).toNat : Int) = 56 := rfl
          by_cases hr : lt l j = 56 ∨ lt l j = 56
          · have HS : Hid (encL l k (encW.drop (4 + 1)) (j + ln l j) = encL l k encW k) := by
              rw [← HF.out]
              show _ = encL l k ((56, 56) :: encW.drop (4 + 1)) j
              rw [encL, takeS_t hok, bind_ok, if_pos hr]
            rcases hr with hr | hr
            all_goals
              go_wp2_with (first | (go_at_call 41; refine (take_t hi hok).mono ?_; rintro e w' ⟨rfl, hg2, hi2⟩))
              go_roundg 0
              case measure => omega
              case rel => exact ⟨5, j + ln l j, by omega, rfl, grownBy_trans hg hg2, hi2, HS⟩
          · have HR : Hid (encL l k encW k = .bad k 2) := by
              rw [← HF.out]
              show encL l k ((56, 56) :: encW.drop (4 + 1)) j = _
              rw [encL, takeS_t hok, bind_ok, if_neg hr]
            have n1 : (lt l j != 56) = true := by simp; exact fun e => hr (.inl e)
            have n2 : (lt l j != 56) = true := by simp; exact fun e => hr (.inr e)
            clear hr
            go_wp2_with (first | (go_at_call 41; refine (take_t hi hok).mono ?_; rintro e w' ⟨rfl, hg2, hi2⟩) | (go_at_call 47; refine (fail_any _ _ _).mono ?_; rintro e w' ⟨rfl, rfl⟩))
            refine ⟨rfl, ?_⟩
            show Scan P w v l ret0 (encL l k encW k) _ _
            rw [HR.out]
            exact ⟨rfl, grownBy_trans hg hg2, _, hi2.ps⟩
    · obtain rfl : i = 5 := by omega
      have HR : Hid (encL l k encW k = .ok () j) := by rw [← HF.out]; exact rfl
      go_wp2
      go_end0
      show Scan P w v l ret0 (encL l k encW k) _ _
      rw [HR.out]
      exact ⟨rfl, hg, hi⟩
set_option maxHeartbeats 800000 in
theorem setv_s {P k : Nat} {v : PV} {l : Bs} {w : World} (h : In P w v l k) : Calls Tryd.prog 52 #[pp P, .string ⟨#[118, 101, 114, 115, 105, 111, 110]⟩, .func (.func 53) #[pp P] #[]] w (Scan P w v l ret0 (setS l [118, 101, 114, 115, 105, 111, 110] (verS l) k)) := by
  have c1 := h.rd
  rw [setS]
  rcases hw : wordS l k [118, 101, 114, 115, 105, 111, 110] k with ⟨_, k1⟩ | ⟨p, er⟩
  · rw [bind_ok]
    rcases he : eqS l k1 with ⟨_, k2⟩ | ⟨p, er⟩
    · rw [bind_ok]
      rcases hq : quoteS l k2 with ⟨q, k3⟩ | ⟨p, er⟩
      · rw [bind_ok]
        rcases hv : verS l k3 with ⟨_, k4⟩ | ⟨p, er⟩
        · rw [bind_ok]
          rcases hs : signS l q k4 with ⟨_, k5⟩ | ⟨p, er⟩
          · skip
            go_enter Tryd.func52, Tryd.ntmps52
            go_wp2_with (first | (go_at_call 66; refine (scan_ok (word_c #[118, 101, 114, 115, 105, 111, 110] _ [118, 101, 114, 115, 105, 111, 110] (by decide) rfl h) hw).mono ?_; rintro e w1 ⟨rfl, hg1, hi1⟩) | (go_at_call 70; refine (scan_ok (eq_s hi1) he).mono ?_; rintro e w2 ⟨rfl, hg2, hi2⟩) | (go_at_call 71; refine (scan_ok (quote_s hi2) hq).mono ?_; rintro e w3 ⟨rfl, hg3, hi3⟩) | (go_at_call 53; refine (scan_ok (ver_s hi3) hv).mono ?_; rintro e w4 ⟨rfl, hg4, hi4⟩) | (go_at_call 56; refine (scan_ok (sign_s q hi4) hs).mono ?_; rintro e w5 ⟨rfl, hg5, hi5⟩))
            go_end0
            exact ⟨rfl, grownBy_trans hg1 (grownBy_trans hg2 (grownBy_trans hg3 (grownBy_trans hg4 hg5))), hi5⟩
          · skip
            go_enter Tryd.func52, Tryd.ntmps52
            go_wp2_with (first | (go_at_call 66; refine (scan_ok (word_c #[118, 101, 114, 115, 105, 111, 110] _ [118, 101, 114, 115, 105, 111, 110] (by decide) rfl h) hw).mono ?_; rintro e w1 ⟨rfl, hg1, hi1⟩) | (go_at_call 70; refine (scan_ok (eq_s hi1) he).mono ?_; rintro e w2 ⟨rfl, hg2, hi2⟩) | (go_at_call 71; refine (scan_ok (quote_s hi2) hq).mono ?_; rintro e w3 ⟨rfl, hg3, hi3⟩) | (go_at_call 53; refine (scan_ok (ver_s hi3) hv).mono ?_; rintro e w4 ⟨rfl, hg4, hi4⟩) | (go_at_call 56; refine (scan_bad (sign_s q hi4) hs).mono ?_; rintro e w5 ⟨rfl, hg5, kk, hp⟩))
            exact ⟨rfl, rfl, grownBy_trans hg1 (grownBy_trans hg2 (grownBy_trans hg3 (grownBy_trans hg4 hg5))), kk, hp⟩
        · rw [bind_bad]
          go_enter Tryd.func52, Tryd.ntmps52
          go_wp2_with (first | (go_at_call 66; refine (scan_ok (word_c #[118, 101, 114, 115, 105, 111, 110] _ [118, 101, 114, 115, 105, 111, 110] (by decide) rfl h) hw).mono ?_; rintro e w1 ⟨rfl, hg1, hi1⟩) | (go_at_call 70; refine (scan_ok (eq_s hi1) he).mono ?_; rintro e w2 ⟨rfl, hg2, hi2⟩) | (go_at_call 71; refine (scan_ok (quote_s hi2) hq).mono ?_; rintro e w3 ⟨rfl, hg3, hi3⟩) | (go_at_call 53; refine (scan_bad (ver_s hi3) hv).mono ?_; rintro e w4 ⟨rfl, hg4, kk, hp⟩))
          exact ⟨rfl, rfl, grownBy_trans hg1 (grownBy_trans hg2 (grownBy_trans hg3 hg4)), kk, hp⟩
      · rw [bind_bad]
        go_enter Tryd.func52, Tryd.ntmps52
        go_wp2_with (first | (go_at_call 66; refine (scan_ok (word_c #[118, 101, 114, 115, 105, 111, 110] _ [118, 101, 114, 115, 105, 111, 110] (by decide) rfl h) hw).mono ?_; rintro e w1 ⟨rfl, hg1, hi1⟩) | (go_at_call 70; refine (scan_ok (eq_s hi1) he).mono ?_; rintro e w2 ⟨rfl, hg2, hi2⟩) | (go_at_call 71; refine (scan_bad (quote_s hi2) hq).mono ?_; rintro e w3 ⟨rfl, hg3, kk, hp⟩))
        exact ⟨rfl, rfl, grownBy_trans hg1 (grownBy_trans hg2 hg3), kk, hp⟩
    · rw [bind_bad]
      go_enter Tryd.func52, Tryd.ntmps52
      go_wp2_with (first | (go_at_call 66; refine (scan_ok (word_c #[118, 101, 114, 115, 105, 111, 110] _ [118, 101, 114, 115, 105, 111, 110] (by decide) rfl h) hw).mono ?_; rintro e w1 ⟨rfl, hg1, hi1⟩) | (go_at_call 70; refine (scan_bad (eq_s hi1) he).mono ?_; rintro e w2 ⟨rfl, hg2, kk, hp⟩))
      exact ⟨rfl, rfl, grownBy_trans hg1 hg2, kk, hp⟩
  · rw [bind_bad]
    go_enter Tryd.func52, Tryd.ntmps52
    go_wp2_with (first | (go_at_call 66; refine (scan_bad (word_c #[118, 101, 114, 115, 105, 111, 110] _ [118, 101, 114, 115, 105, 111, 110] (by decide) rfl h) hw).mono ?_; rintro e w1 ⟨rfl, hg1, kk, hp⟩))
    exact ⟨rfl, rfl, hg1, kk, hp⟩
set_option maxHeartbeats 800000 in
theorem sete_s {P k : Nat} {v : PV} {l : Bs} {w : World} (h : In P w v l k) : Calls Tryd.prog 52 #[pp P, .string ⟨#[101, 110, 99, 111, 100, 105, 110, 103]⟩, .func (.func 54) #[pp P] #[]] w (Scan P w v l ret0 (setS l [101, 110, 99, 111, 100, 105, 110, 103] (encS l) k)) := by
  have c1 := h.rd
  rw [setS]
  rcases hw : wordS l k [101, 110, 99, 111, 100, 105, 110, 103] k with ⟨_, k1⟩ | ⟨p, er⟩
  · rw [bind_ok]
    rcases he : eqS l k1 with ⟨_, k2⟩ | ⟨p, er⟩
    · rw [bind_ok]
      rcases hq : quoteS l k2 with ⟨q, k3⟩ | ⟨p, er⟩
      · rw [bind_ok]
        rcases hv : encS l k3 with ⟨_, k4⟩ | ⟨p, er⟩
        · rw [bind_ok]
          rcases hs : signS l q k4 with ⟨_, k5⟩ | ⟨p, er⟩
          · skip
            go_enter Tryd.func52, Tryd.ntmps52
            go_wp2_with (first | (go_at_call 66; refine (scan_ok (word_c #[101, 110, 99, 111, 100, 105, 110, 103] _ [101, 110, 99, 111, 100, 105, 110, 103] (by decide) rfl h) hw).mono ?_; rintro e w1 ⟨rfl, hg1, hi1⟩) | (go_at_call 70; refine (scan_ok (eq_s hi1) he).mono ?_; rintro e w2 ⟨rfl, hg2, hi2⟩) | (go_at_call 71; refine (scan_ok (quote_s hi2) hq).mono ?_; rintro e w3 ⟨rfl, hg3, hi3⟩) | (go_at_call 54; refine (scan_ok (enc_s hi3) hv).mono ?_; rintro e w4 ⟨rfl, hg4, hi4⟩) | (go_at_call 56; refine (scan_ok (sign_s q hi4) hs).mono ?_; rintro e w5 ⟨rfl, hg5, hi5⟩))
            go_end0
            exact ⟨rfl, grownBy_trans hg1 (grownBy_trans hg2 (grownBy_trans hg3 (grownBy_trans hg4 hg5))), hi5⟩
          · skip
            go_enter Tryd.func52, Tryd.ntmps52
            go_wp2_with (first | (go_at_call 66; refine (scan_ok (word_c #[101, 110, 99, 111, 100, 105, 110, 103] _ [101, 110, 99, 111, 100, 105, 110, 103] (by decide) rfl h) hw).mono ?_; rintro e w1 ⟨rfl, hg1, hi1⟩) | (go_at_call 70; refine (scan_ok (eq_s hi1) he).mono ?_; rintro e w2 ⟨rfl, hg2, hi2⟩) | (go_at_call 71; refine (scan_ok (quote_s hi2) hq).mono ?_; rintro e w3 ⟨rfl, hg3, hi3⟩) | (go_at_call 54; refine (scan_ok (enc_s hi3) hv).mono ?_; rintro e w4 ⟨rfl, hg4, hi4⟩) | (go_at_call 56; refine (scan_bad (sign_s q hi4) hs).mono ?_; rintro e w5 ⟨rfl, hg5, kk, hp⟩))
            exact ⟨rfl, rfl, grownBy_trans hg1 (grownBy_trans hg2 (grownBy_trans hg3 (grownBy_trans hg4 hg5))), kk, hp⟩
        · rw [bind_bad]
          go_enter Tryd.func52, Tryd.ntmps52
          go_wp2_with (first | (go_at_call 66; refine (scan_ok (word_c #[101, 110, 99, 111, 100, 105, 110, 103] _ [101, 110, 99, 111, 100, 105, 110, 103] (by decide) rfl h) hw).mono ?_; rintro e w1 ⟨rfl, hg1, hi1⟩) | (go_at_call 70; refine (scan_ok (eq_s hi1) he).mono ?_; rintro e w2 ⟨rfl, hg2, hi2⟩) | (go_at_call 71; refine (scan_ok (quote_s hi2) hq).mono ?_; rintro e w3 ⟨rfl, hg3, hi3⟩) | (go_at_call 54; refine (scan_bad (enc_s hi3) hv).mono ?_; rintro e w4 ⟨rfl, hg4, kk, hp⟩))
          exact ⟨rfl, rfl, grownBy_trans hg1 (grownBy_trans hg2 (grownBy_trans hg3 hg4)), kk, hp⟩
      · rw [bind_bad]
        go_enter Tryd.func52, Tryd.ntmps52
        go_wp2_with (first | (go_at_call 66; refine (scan_ok (word_c #[101, 110, 99, 111, 100, 105, 110, 103] _ [101, 110, 99, 111, 100, 105, 110, 103] (by decide) rfl h) hw).mono ?_; rintro e w1 ⟨rfl, hg1, hi1⟩) | (go_at_call 70; refine (scan_ok (eq_s hi1) he).mono ?_; rintro e w2 ⟨rfl, hg2, hi2⟩) | (go_at_call 71; refine (scan_bad (quote_s hi2) hq).mono ?_; rintro e w3 ⟨rfl, hg3, kk, hp⟩))
        exact ⟨rfl, rfl, grownBy_trans hg1 (grownBy_trans hg2 hg3), kk, hp⟩
    · rw [bind_bad]
      go_enter Tryd.func52, Tryd.ntmps52
      go_wp2_with (first | (go_at_call 66; refine (scan_ok (word_c #[101, 110, 99, 111, 100, 105, 110, 103] _ [101, 110, 99, 111, 100, 105, 110, 103] (by decide) rfl h) hw).mono ?_; rintro e w1 ⟨rfl, hg1, hi1⟩) | (go_at_call 70; refine (scan_bad (eq_s hi1) he).mono ?_; rintro e w2 ⟨rfl, hg2, kk, hp⟩))
      exact ⟨rfl, rfl, grownBy_trans hg1 hg2, kk, hp⟩
  · rw [bind_bad]
    go_enter Tryd.func52, Tryd.ntmps52
    go_wp2_with (first | (go_at_call 66; refine (scan_bad (word_c #[101, 110, 99, 111, 100, 105, 110, 103] _ [101, 110, 99, 111, 100, 105, 110, 103] (by decide) rfl h) hw).mono ?_; rintro e w1 ⟨rfl, hg1, kk, hp⟩))
    exact ⟨rfl, rfl, hg1, kk, hp⟩
set_option maxHeartbeats 800000 in
theorem sets_s {P k : Nat} {v : PV} {l : Bs} {w : World} (h : In P w v l k) : Calls Tryd.prog 52 #[pp P, .string ⟨#[115, 116, 97, 110, 100, 97, 108, 111, 110, 101]⟩, .func (.func 55) #[pp P] #[]] w (Scan P w v l ret0 (setS l [115, 116, 97, 110, 100, 97, 108, 111, 110, 101] (staS l) k)) := by
  have c1 := h.rd
  rw [setS]
  rcases hw : wordS l k [115, 116, 97, 110, 100, 97, 108, 111, 110, 101] k with ⟨_, k1⟩ | ⟨p, er⟩
  · rw [bind_ok]
    rcases he : eqS l k1 with ⟨_, k2⟩ | ⟨p, er⟩
    · rw [bind_ok]
      rcases hq : quoteS l k2 with ⟨q, k3⟩ | ⟨p, er⟩
      · rw [bind_ok]
        rcases hv : staS l k3 with ⟨_, k4⟩ | ⟨p, er⟩
        · rw [bind_ok]
          rcases hs : signS l q k4 with ⟨_, k5⟩ | ⟨p, er⟩
          · skip
            go_enter Tryd.func52, Tryd.ntmps52
            go_wp2_with (first | (go_at_call 66; refine (scan_ok (word_c #[115, 116, 97, 110, 100, 97, 108, 111, 110, 101] _ [115, 116, 97, 110, 100, 97, 108, 111, 110, 101] (by decide) rfl h) hw).mono ?_; rintro e w1 ⟨rfl, hg1, hi1⟩) | (go_at_call 70; refine (scan_ok (eq_s hi1) he).mono ?_; rintro e w2 ⟨rfl, hg2, hi2⟩) | (go_at_call 71; refine (scan_ok (quote_s hi2) hq).mono ?_; rintro e w3 ⟨rfl, hg3, hi3⟩) | (go_at_call 55; refine (scan_ok (sta_s hi3) hv).mono ?_; rintro e w4 ⟨rfl, hg4, hi4⟩) | (go_at_call 56; refine (scan_ok (sign_s q hi4) hs).mono ?_; rintro e w5 ⟨rfl, hg5, hi5⟩))
            go_end0
            exact ⟨rfl, grownBy_trans hg1 (grownBy_trans hg2 (grownBy_trans hg3 (grownBy_trans hg4 hg5))), hi5⟩
          · skip
            go_enter Tryd.func52, Tryd.ntmps52
            go_wp2_with (first | (go_at_call 66; refine (scan_ok (word_c #[115, 116, 97, 110, 100, 97, 108, 111, 110, 101] _ [115, 116, 97, 110, 100, 97, 108, 111, 110, 101] (by decide) rfl h) hw).mono ?_; rintro e w1 ⟨rfl, hg1, hi1⟩) | (go_at_call 70; refine (scan_ok (eq_s hi1) he).mono ?_; rintro e w2 ⟨rfl, hg2, hi2⟩) | (go_at_call 71; refine (scan_ok (quote_s hi2) hq).mono ?_; rintro e w3 ⟨rfl, hg3, hi3⟩) | (go_at_call 55; refine (scan_ok (sta_s hi3) hv).mono ?_; rintro e w4 ⟨rfl, hg4, hi4⟩) | (go_at_call 56; refine (scan_bad (sign_s q hi4) hs).mono ?_; rintro e w5 ⟨rfl, hg5, kk, hp⟩))
            exact ⟨rfl, rfl, grownBy_trans hg1 (grownBy_trans hg2 (grownBy_trans hg3 (grownBy_trans hg4 hg5))), kk, hp⟩
        · rw [bind_bad]
          go_enter Tryd.func52, Tryd.ntmps52
          go_wp2_with (first | (go_at_call 66; refine (scan_ok (word_c #[115, 116, 97, 110, 100, 97, 108, 111, 110, 101] _ [115, 116, 97, 110, 100, 97, 108, 111, 110, 101] (by decide) rfl h) hw).mono ?_; rintro e w1 ⟨rfl, hg1, hi1⟩) | (go_at_call 70; refine (scan_ok (eq_s hi1) he).mono ?_; rintro e w2 ⟨rfl, hg2, hi2⟩) | (go_at_call 71; refine (scan_ok (quote_s hi2) hq).mono ?_; rintro e w3 ⟨rfl, hg3, hi3⟩) | (go_at_call 55; refine (scan_bad (sta_s hi3) hv).mono ?_; rintro e w4 ⟨rfl, hg4, kk, hp⟩))
          exact ⟨rfl, rfl, grownBy_trans hg1 (grownBy_trans hg2 (grownBy_trans hg3 hg4)), kk, hp⟩
      · rw [bind_bad]
        go_enter Tryd.func52, Tryd.ntmps52
        go_wp2_with (first | (go_at_call 66; refine (scan_ok (word_c #[115, 116, 97, 110, 100, 97, 108, 111, 110, 101] _ [115, 116, 97, 110, 100, 97, 108, 111, 110, 101] (by decide) rfl h) hw).mono ?_; rintro e w1 ⟨rfl, hg1, hi1⟩) | (go_at_call 70; refine (scan_ok (eq_s hi1) he).mono ?_; rintro e w2 ⟨rfl, hg2, hi2⟩) | (go_at_call 71; refine (scan_bad (quote_s hi2) hq).mono ?_; rintro e w3 ⟨rfl, hg3, kk, hp⟩))
        exact ⟨rfl, rfl, grownBy_trans hg1 (grownBy_trans hg2 hg3), kk, hp⟩
    · rw [bind_bad]
      go_enter Tryd.func52, Tryd.ntmps52
      go_wp2_with (first | (go_at_call 66; refine (scan_ok (word_c #[115, 116, 97, 110, 100, 97, 108, 111, 110, 101] _ [115, 116, 97, 110, 100, 97, 108, 111, 110, 101] (by decide) rfl h) hw).mono ?_; rintro e w1 ⟨rfl, hg1, hi1⟩) | (go_at_call 70; refine (scan_bad (eq_s hi1) he).mono ?_; rintro e w2 ⟨rfl, hg2, kk, hp⟩))
      exact ⟨rfl, rfl, grownBy_trans hg1 hg2, kk, hp⟩
  · rw [bind_bad]
    go_enter Tryd.func52, Tryd.ntmps52
    go_wp2_with (first | (go_at_call 66; refine (scan_bad (word_c #[115, 116, 97, 110, 100, 97, 108, 111, 110, 101] _ [115, 116, 97, 110, 100, 97, 108, 111, 110, 101] (by decide) rfl h) hw).mono ?_; rintro e w1 ⟨rfl, hg1, kk, hp⟩))
    exact ⟨rfl, rfl, hg1, kk, hp⟩
end Go.Proofs.YtjcgnbmpnaapdaaDoor
namespace Go.Proofs.YtjcgnbmpnaapdaaDoor
open Go.RowKit
set_option linter.unusedVariables false

theorem peek_g {P k : Nat} {v : PV} {l : Bs} {w : World} (h : In P w v l k) (hok : okl l k = true) :
    Calls Tryd.prog 40 #[pp P] w fun e w' => e = .returned (.int .i32 (lt l k)) ∧ w.grownBy w' (some P) ∧ In P w' v l k := by
  refine (peek_t h hok).mono ?_
  rintro e w' ⟨rfl, m, rfl⟩
  exact ⟨rfl, gd m, h.drewN m⟩
theorem peek_gf {P k : Nat} {v : PV} {l : Bs} {w : World} (h : In P w v l k) (hok : okl l k = false) :
    Calls Tryd.prog 40 #[pp P] w fun e w' => e = .panicked (flt k 2) ∧ w.grownBy w' (some P) ∧ In P w' v l k := by
  refine (peek_f h hok).mono ?_
  rintro e w' ⟨rfl, m, rfl⟩
  exact ⟨rfl, gd m, h.drewN m⟩
set_option maxHeartbeats 8000000 in
theorem decl_s {P : Nat} {v : PV} {l : Bs} {w : World} (h : In P w v l 0) (h5 : 5 ≤ l.length) : Calls Tryd.prog 38 #[pp P] w (Scan P w v l ret0 (declS l)) := by
  have c1 := h.rd
  have f1 := h.ps.rd.2.2
  have hm0 : Mv P w (w.setCell ⟨P, 1, none⟩ (.int .i64 5)) { v with k := 5 } := (Mv.refl h.ps).set_k 5
  have hi0 : In P (w.setCell ⟨P, 1, none⟩ (.int .i64 5)) { v with k := ((5 : Nat) : Int) } l 5 := h.mv hm0 h5
  have hg0 : w.grownBy (w.setCell ⟨P, 1, none⟩ (.int .i64 5)) (some P) := grownBy_set _ _ _ _
  have HH : Hid _ := And.intro hi0 hg0
  clear hi0 hg0 hm0
  rw [declS]
  rcases hx1 : blanksS l 5 with ⟨_, k1_⟩ | ⟨p, er⟩
  · rw [bind_ok]
    rcases hx2 : setS l [118, 101, 114, 115, 105, 111, 110] (verS l) k1_ with ⟨_, k2_⟩ | ⟨p, er⟩
    · rw [bind_ok]
      rcases hx3 : blanksS l k2_ with ⟨gap, k3_⟩ | ⟨p, er⟩
      · rw [bind_ok]
        cases gap
        · rw [show dec1S l false k3_ = .ok false k3_ from rfl, bind_ok]
          rw [show dec2S l false k3_ = .ok () k3_ from rfl, bind_ok]
          rcases hx4 : signS l 63 k3_ with ⟨_, k4_⟩ | ⟨p, er⟩
          · rw [bind_ok]
            rcases hx5 : signS l 62 k4_ with ⟨_, k5_⟩ | ⟨p, er⟩
            · skip
              go_enter Tryd.func38, Tryd.ntmps38
              go_wp2_with fail
              obtain ⟨hi0, hg0⟩ := HH.out; refine (scan_ok (blanks_s hi0) hx1).mono ?_; rintro e w1 ⟨rfl, hg1, hi1⟩
              go_wp2_with fail
              refine (scan_ok (setv_s hi1) hx2).mono ?_; rintro e w2 ⟨rfl, hg2, hi2⟩
              go_wp2_with fail
              refine (scan_ok (blanks_s hi2) hx3).mono ?_; rintro e w3 ⟨rfl, hg3, hi3⟩
              go_wp2_with fail
              refine (scan_ok (sign_s 63 hi3) hx4).mono ?_; rintro e w4 ⟨rfl, hg4, hi4⟩
              go_wp2_with fail
              refine (scan_ok (sign_s 62 hi4) hx5).mono ?_; rintro e w5 ⟨rfl, hg5, hi5⟩
              go_wp2_with fail
              go_end0
              exact ⟨rfl, grownBy_trans hg0 (grownBy_trans hg1 (grownBy_trans hg2 (grownBy_trans hg3 (grownBy_trans hg4 (hg5))))), hi5⟩
            · skip
              go_enter Tryd.func38, Tryd.ntmps38
              go_wp2_with fail
              obtain ⟨hi0, hg0⟩ := HH.out; refine (scan_ok (blanks_s hi0) hx1).mono ?_; rintro e w1 ⟨rfl, hg1, hi1⟩
              go_wp2_with fail
              refine (scan_ok (setv_s hi1) hx2).mono ?_; rintro e w2 ⟨rfl, hg2, hi2⟩
              go_wp2_with fail
              refine (scan_ok (blanks_s hi2) hx3).mono ?_; rintro e w3 ⟨rfl, hg3, hi3⟩
              go_wp2_with fail
              refine (scan_ok (sign_s 63 hi3) hx4).mono ?_; rintro e w4 ⟨rfl, hg4, hi4⟩
              go_wp2_with fail
              refine (scan_bad (sign_s 62 hi4) hx5).mono ?_; rintro e w5 ⟨rfl, hg5, kk, hp⟩
              go_wp2_with fail
              exact ⟨rfl, rfl, grownBy_trans hg0 (grownBy_trans hg1 (grownBy_trans hg2 (grownBy_trans hg3 (grownBy_trans hg4 (hg5))))), kk, hp⟩
          · rw [bind_bad]
            go_enter Tryd.func38, Tryd.ntmps38
            go_wp2_with fail
            obtain ⟨hi0, hg0⟩ := HH.out; refine (scan_ok (blanks_s hi0) hx1).mono ?_; rintro e w1 ⟨rfl, hg1, hi1⟩
            go_wp2_with fail
            refine (scan_ok (setv_s hi1) hx2).mono ?_; rintro e w2 ⟨rfl, hg2, hi2⟩
            go_wp2_with fail
            refine (scan_ok (blanks_s hi2) hx3).mono ?_; rintro e w3 ⟨rfl, hg3, hi3⟩
            go_wp2_with fail
            refine (scan_bad (sign_s 63 hi3) hx4).mono ?_; rintro e w4 ⟨rfl, hg4, kk, hp⟩
            go_wp2_with fail
            exact ⟨rfl, rfl, grownBy_trans hg0 (grownBy_trans hg1 (grownBy_trans hg2 (grownBy_trans hg3 (hg4)))), kk, hp⟩
        · cases ho6 : okl l k3_
          · rw [show dec1S l true k3_ = .bad k3_ 2 by rw [dec1S, if_pos rfl, peekS_f ho6]; rfl, bind_bad]
            go_enter Tryd.func38, Tryd.ntmps38
            go_wp2_with fail
            obtain ⟨hi0, hg0⟩ := HH.out; refine (scan_ok (blanks_s hi0) hx1).mono ?_; rintro e w1 ⟨rfl, hg1, hi1⟩
            go_wp2_with fail
            refine (scan_ok (setv_s hi1) hx2).mono ?_; rintro e w2 ⟨rfl, hg2, hi2⟩
            go_wp2_with fail
            refine (scan_ok (blanks_s hi2) hx3).mono ?_; rintro e w3 ⟨rfl, hg3, hi3⟩
            go_wp2_with fail
            refine (peek_gf hi3 ho6).mono ?_; rintro e w4 ⟨rfl, hg4, hi4⟩
            go_wp2_with fail
            exact ⟨rfl, rfl, grownBy_trans hg0 (grownBy_trans hg1 (grownBy_trans hg2 (grownBy_trans hg3 (hg4)))), _, hi4.ps⟩
          · by_cases hs6 : lt l k3_ = 101
            · rw [show dec1S l true k3_ = (setS l [101, 110, 99, 111, 100, 105, 110, 103] (encS l) k3_).bind fun _ k1 => blanksS l k1 by rw [dec1S, if_pos rfl, peekS_t ho6, bind_ok, if_pos hs6]]
              rcases hx7 : setS l [101, 110, 99, 111, 100, 105, 110, 103] (encS l) k3_ with ⟨_, k7_⟩ | ⟨p, er⟩
              · rw [bind_ok]
                rcases hx8 : blanksS l k7_ with ⟨gap2, k8_⟩ | ⟨p, er⟩
                · rw [bind_ok]
                  cases gap2
                  · skip
                    rw [show dec2S l false k8_ = .ok () k8_ from rfl, bind_ok]
                    rcases hx9 : signS l 63 k8_ with ⟨_, k9_⟩ | ⟨p, er⟩
                    · rw [bind_ok]
                      rcases hx10 : signS l 62 k9_ with ⟨_, k10_⟩ | ⟨p, er⟩
                      · skip
                        go_enter Tryd.func38, Tryd.ntmps38
                        go_wp2_with fail
                        obtain ⟨hi0, hg0⟩ := HH.out; refine (scan_ok (blanks_s hi0) hx1).mono ?_; rintro e w1 ⟨rfl, hg1, hi1⟩
                        go_wp2_with fail
                        refine (scan_ok (setv_s hi1) hx2).mono ?_; rintro e w2 ⟨rfl, hg2, hi2⟩
                        go_wp2_with fail
                        refine (scan_ok (blanks_s hi2) hx3).mono ?_; rintro e w3 ⟨rfl, hg3, hi3⟩
                        go_wp2_with fail
                        refine (peek_g hi3 ho6).mono ?_; rintro e w4 ⟨rfl, hg4, hi4⟩
                        go_wp2_with fail
                        refine (scan_ok (sete_s hi4) hx7).mono ?_; rintro e w5 ⟨rfl, hg5, hi5⟩
                        go_wp2_with fail
                        refine (scan_ok (blanks_s hi5) hx8).mono ?_; rintro e w6 ⟨rfl, hg6, hi6⟩
                        go_wp2_with fail
                        refine (scan_ok (sign_s 63 hi6) hx9).mono ?_; rintro e w7 ⟨rfl, hg7, hi7⟩
                        go_wp2_with fail
                        refine (scan_ok (sign_s 62 hi7) hx10).mono ?_; rintro e w8 ⟨rfl, hg8, hi8⟩
                        go_wp2_with fail
                        go_end0
                        exact ⟨rfl, grownBy_trans hg0 (grownBy_trans hg1 (grownBy_trans hg2 (grownBy_trans hg3 (grownBy_trans hg4 (grownBy_trans hg5 (grownBy_trans hg6 (grownBy_trans hg7 (hg8)))))))), hi8⟩
                      · skip
                        go_enter Tryd.func38, Tryd.ntmps38
                        go_wp2_with fail
                        obtain ⟨hi0, hg0⟩ := HH.out; refine (scan_ok (blanks_s hi0) hx1).mono ?_; rintro e w1 ⟨rfl, hg1, hi1⟩
                        go_wp2_with fail
                        refine (scan_ok (setv_s hi1) hx2).mono ?_; rintro e w2 ⟨rfl, hg2, hi2⟩
                        go_wp2_with fail
                        refine (scan_ok (blanks_s hi2) hx3).mono ?_; rintro e w3 ⟨rfl, hg3, hi3⟩
                        go_wp2_with fail
                        refine (peek_g hi3 ho6).mono ?_; rintro e w4 ⟨rfl, hg4, hi4⟩
                        go_wp2_with fail
                        refine (scan_ok (sete_s hi4) hx7).mono ?_; rintro e w5 ⟨rfl, hg5, hi5⟩
                        go_wp2_with fail
                        refine (scan_ok (blanks_s hi5) hx8).mono ?_; rintro e w6 ⟨rfl, hg6, hi6⟩
                        go_wp2_with fail
                        refine (scan_ok (sign_s 63 hi6) hx9).mono ?_; rintro e w7 ⟨rfl, hg7, hi7⟩
                        go_wp2_with fail
                        refine (scan_bad (sign_s 62 hi7) hx10).mono ?_; rintro e w8 ⟨rfl, hg8, kk, hp⟩
                        go_wp2_with fail
                        exact ⟨rfl, rfl, grownBy_trans hg0 (grownBy_trans hg1 (grownBy_trans hg2 (grownBy_trans hg3 (grownBy_trans hg4 (grownBy_trans hg5 (grownBy_trans hg6 (grownBy_trans hg7 (hg8)))))))), kk, hp⟩
                    · rw [bind_bad]
                      go_enter Tryd.func38, Tryd.ntmps38
                      go_wp2_with fail
                      obtain ⟨hi0, hg0⟩ := HH.out; refine (scan_ok (blanks_s hi0) hx1).mono ?_; rintro e w1 ⟨rfl, hg1, hi1⟩
                      go_wp2_with fail
                      refine (scan_ok (setv_s hi1) hx2).mono ?_; rintro e w2 ⟨rfl, hg2, hi2⟩
                      go_wp2_with fail
                      refine (scan_ok (blanks_s hi2) hx3).mono ?_; rintro e w3 ⟨rfl, hg3, hi3⟩
                      go_wp2_with fail
                      refine (peek_g hi3 ho6).mono ?_; rintro e w4 ⟨rfl, hg4, hi4⟩
                      go_wp2_with fail
                      refine (scan_ok (sete_s hi4) hx7).mono ?_; rintro e w5 ⟨rfl, hg5, hi5⟩
                      go_wp2_with fail
                      refine (scan_ok (blanks_s hi5) hx8).mono ?_; rintro e w6 ⟨rfl, hg6, hi6⟩
                      go_wp2_with fail
                      refine (scan_bad (sign_s 63 hi6) hx9).mono ?_; rintro e w7 ⟨rfl, hg7, kk, hp⟩
                      go_wp2_with fail
                      exact ⟨rfl, rfl, grownBy_trans hg0 (grownBy_trans hg1 (grownBy_trans hg2 (grownBy_trans hg3 (grownBy_trans hg4 (grownBy_trans hg5 (grownBy_trans hg6 (hg7))))))), kk, hp⟩
                  · skip
                    cases ho11 : okl l k8_
                    · rw [show dec2S l true k8_ = .bad k8_ 2 by rw [dec2S, if_pos rfl, peekS_f ho11]; rfl, bind_bad]
                      go_enter Tryd.func38, Tryd.ntmps38
                      go_wp2_with fail
                      obtain ⟨hi0, hg0⟩ := HH.out; refine (scan_ok (blanks_s hi0) hx1).mono ?_; rintro e w1 ⟨rfl, hg1, hi1⟩
                      go_wp2_with fail
                      refine (scan_ok (setv_s hi1) hx2).mono ?_; rintro e w2 ⟨rfl, hg2, hi2⟩
                      go_wp2_with fail
                      refine (scan_ok (blanks_s hi2) hx3).mono ?_; rintro e w3 ⟨rfl, hg3, hi3⟩
                      go_wp2_with fail
                      refine (peek_g hi3 ho6).mono ?_; rintro e w4 ⟨rfl, hg4, hi4⟩
                      go_wp2_with fail
                      refine (scan_ok (sete_s hi4) hx7).mono ?_; rintro e w5 ⟨rfl, hg5, hi5⟩
                      go_wp2_with fail
                      refine (scan_ok (blanks_s hi5) hx8).mono ?_; rintro e w6 ⟨rfl, hg6, hi6⟩
                      go_wp2_with fail
                      refine (peek_gf hi6 ho11).mono ?_; rintro e w7 ⟨rfl, hg7, hi7⟩
                      go_wp2_with fail
                      exact ⟨rfl, rfl, grownBy_trans hg0 (grownBy_trans hg1 (grownBy_trans hg2 (grownBy_trans hg3 (grownBy_trans hg4 (grownBy_trans hg5 (grownBy_trans hg6 (hg7))))))), _, hi7.ps⟩
                    · by_cases hs11 : lt l k8_ = 115
                      · rw [show dec2S l true k8_ = (setS l [115, 116, 97, 110, 100, 97, 108, 111, 110, 101] (staS l) k8_).bind fun _ k1 => (blanksS l k1).bind fun _ k2 => .ok () k2 by rw [dec2S, if_pos rfl, peekS_t ho11, bind_ok, if_pos hs11]]
                        rcases hx12 : setS l [115, 116, 97, 110, 100, 97, 108, 111, 110, 101] (staS l) k8_ with ⟨_, k12_⟩ | ⟨p, er⟩
                        · rw [bind_ok]
                          rcases hx13 : blanksS l k12_ with ⟨_, k13_⟩ | ⟨p, er⟩
                          · rw [bind_ok, bind_ok]
                            rcases hx14 : signS l 63 k13_ with ⟨_, k14_⟩ | ⟨p, er⟩
                            · rw [bind_ok]
                              rcases hx15 : signS l 62 k14_ with ⟨_, k15_⟩ | ⟨p, er⟩
                              · skip
                                go_enter Tryd.func38, Tryd.ntmps38
                                go_wp2_with fail
                                obtain ⟨hi0, hg0⟩ := HH.out; refine (scan_ok (blanks_s hi0) hx1).mono ?_; rintro e w1 ⟨rfl, hg1, hi1⟩
                                go_wp2_with fail
                                refine (scan_ok (setv_s hi1) hx2).mono ?_; rintro e w2 ⟨rfl, hg2, hi2⟩
                                go_wp2_with fail
                                refine (scan_ok (blanks_s hi2) hx3).mono ?_; rintro e w3 ⟨rfl, hg3, hi3⟩
                                go_wp2_with fail
                                refine (peek_g hi3 ho6).mono ?_; rintro e w4 ⟨rfl, hg4, hi4⟩
                                go_wp2_with fail
                                refine (scan_ok (sete_s hi4) hx7).mono ?_; rintro e w5 ⟨rfl, hg5, hi5⟩
                                go_wp2_with fail
                                refine (scan_ok (blanks_s hi5) hx8).mono ?_; rintro e w6 ⟨rfl, hg6, hi6⟩
                                go_wp2_with fail
                                refine (peek_g hi6 ho11).mono ?_; rintro e w7 ⟨rfl, hg7, hi7⟩
                                go_wp2_with fail
                                refine (scan_ok (sets_s hi7) hx12).mono ?_; rintro e w8 ⟨rfl, hg8, hi8⟩
                                go_wp2_with fail
                                refine (scan_ok (blanks_s hi8) hx13).mono ?_; rintro e w9 ⟨rfl, hg9, hi9⟩
                                go_wp2_with fail
                                refine (scan_ok (sign_s 63 hi9) hx14).mono ?_; rintro e w10 ⟨rfl, hg10, hi10⟩
                                go_wp2_with fail
                                refine (scan_ok (sign_s 62 hi10) hx15).mono ?_; rintro e w11 ⟨rfl, hg11, hi11⟩
                                go_wp2_with fail
                                go_end0
                                exact ⟨rfl, grownBy_trans hg0 (grownBy_trans hg1 (grownBy_trans hg2 (grownBy_trans hg3 (grownBy_trans hg4 (grownBy_trans hg5 (grownBy_trans hg6 (grownBy_trans hg7 (grownBy_trans hg8 (grownBy_trans hg9 (grownBy_trans hg10 (hg11))))))))))), hi11⟩
                              · skip
                                go_enter Tryd.func38, Tryd.ntmps38
                                go_wp2_with fail
                                obtain ⟨hi0, hg0⟩ := HH.out; refine (scan_ok (blanks_s hi0) hx1).mono ?_; rintro e w1 ⟨rfl, hg1, hi1⟩
                                go_wp2_with fail
                                refine (scan_ok (setv_s hi1) hx2).mono ?_; rintro e w2 ⟨rfl, hg2, hi2⟩
                                go_wp2_with fail
                                refine (scan_ok (blanks_s hi2) hx3).mono ?_; rintro e w3 ⟨rfl, hg3, hi3⟩
                                go_wp2_with fail
                                refine (peek_g hi3 ho6).mono ?_; rintro e w4 ⟨rfl, hg4, hi4⟩
                                go_wp2_with fail
                                refine (scan_ok (sete_s hi4) hx7).mono ?_; rintro e w5 ⟨rfl, hg5, hi5⟩
                                go_wp2_with fail
                                refine (scan_ok (blanks_s hi5) hx8).mono ?_; rintro e w6 ⟨rfl, hg6, hi6⟩
                                go_wp2_with fail
                                refine (peek_g hi6 ho11).mono ?_; rintro e w7 ⟨rfl, hg7, hi7⟩
                                go_wp2_with fail
                                refine (scan_ok (sets_s hi7) hx12).mono ?_; rintro e w8 ⟨rfl, hg8, hi8⟩
                                go_wp2_with fail
                                refine (scan_ok (blanks_s hi8) hx13).mono ?_; rintro e w9 ⟨rfl, hg9, hi9⟩
                                go_wp2_with fail
                                refine (scan_ok (sign_s 63 hi9) hx14).mono ?_; rintro e w10 ⟨rfl, hg10, hi10⟩
                                go_wp2_with fail
                                refine (scan_bad (sign_s 62 hi10) hx15).mono ?_; rintro e w11 ⟨rfl, hg11, kk, hp⟩
                                go_wp2_with fail
                                exact ⟨rfl, rfl, grownBy_trans hg0 (grownBy_trans hg1 (grownBy_trans hg2 (grownBy_trans hg3 (grownBy_trans hg4 (grownBy_trans hg5 (grownBy_trans hg6 (grownBy_trans hg7 (grownBy_trans hg8 (grownBy_trans hg9 (grownBy_trans hg10 (hg11))))))))))), kk, hp⟩
                            · rw [bind_bad]
                              go_enter Tryd.func38, Tryd.ntmps38
                              go_wp2_with fail
                              obtain ⟨hi0, hg0⟩ := HH.out; refine (scan_ok (blanks_s hi0) hx1).mono ?_; rintro e w1 ⟨rfl, hg1, hi1⟩
                              go_wp2_with fail
                              refine (scan_ok (setv_s hi1) hx2).mono ?_; rintro e w2 ⟨rfl, hg2, hi2⟩
                              go_wp2_with fail
                              refine (scan_ok (blanks_s hi2) hx3).mono ?_; rintro e w3 ⟨rfl, hg3, hi3⟩
                              go_wp2_with fail
                              refine (peek_g hi3 ho6).mono ?_; rintro e w4 ⟨rfl, hg4, hi4⟩
                              go_wp2_with fail
                              refine (scan_ok (sete_s hi4) hx7).mono ?_; rintro e w5 ⟨rfl, hg5, hi5⟩
                              go_wp2_with fail
                              refine (scan_ok (blanks_s hi5) hx8).mono ?_; rintro e w6 ⟨rfl, hg6, hi6⟩
                              go_wp2_with fail
                              refine (peek_g hi6 ho11).mono ?_; rintro e w7 ⟨rfl, hg7, hi7⟩
                              go_wp2_with fail
                              refine (scan_ok (sets_s hi7) hx12).mono ?_; rintro e w8 ⟨rfl, hg8, hi8⟩
                              go_wp2_with fail
                              refine (scan_ok (blanks_s hi8) hx13).mono ?_; rintro e w9 ⟨rfl, hg9, hi9⟩
                              go_wp2_with fail
                              refine (scan_bad (sign_s 63 hi9) hx14).mono ?_; rintro e w10 ⟨rfl, hg10, kk, hp⟩
                              go_wp2_with fail
                              exact ⟨rfl, rfl, grownBy_trans hg0 (grownBy_trans hg1 (grownBy_trans hg2 (grownBy_trans hg3 (grownBy_trans hg4 (grownBy_trans hg5 (grownBy_trans hg6 (grownBy_trans hg7 (grownBy_trans hg8 (grownBy_trans hg9 (hg10)))))))))), kk, hp⟩
                          · rw [bind_bad, bind_bad]
                            go_enter Tryd.func38, Tryd.ntmps38
                            go_wp2_with fail
                            obtain ⟨hi0, hg0⟩ := HH.out; refine (scan_ok (blanks_s hi0) hx1).mono ?_; rintro e w1 ⟨rfl, hg1, hi1⟩
                            go_wp2_with fail
                            refine (scan_ok (setv_s hi1) hx2).mono ?_; rintro e w2 ⟨rfl, hg2, hi2⟩
                            go_wp2_with fail
                            refine (scan_ok (blanks_s hi2) hx3).mono ?_; rintro e w3 ⟨rfl, hg3, hi3⟩
                            go_wp2_with fail
                            refine (peek_g hi3 ho6).mono ?_; rintro e w4 ⟨rfl, hg4, hi4⟩
                            go_wp2_with fail
                            refine (scan_ok (sete_s hi4) hx7).mono ?_; rintro e w5 ⟨rfl, hg5, hi5⟩
                            go_wp2_with fail
                            refine (scan_ok (blanks_s hi5) hx8).mono ?_; rintro e w6 ⟨rfl, hg6, hi6⟩
                            go_wp2_with fail
                            refine (peek_g hi6 ho11).mono ?_; rintro e w7 ⟨rfl, hg7, hi7⟩
                            go_wp2_with fail
                            refine (scan_ok (sets_s hi7) hx12).mono ?_; rintro e w8 ⟨rfl, hg8, hi8⟩
                            go_wp2_with fail
                            refine (scan_bad (blanks_s hi8) hx13).mono ?_; rintro e w9 ⟨rfl, hg9, kk, hp⟩
                            go_wp2_with fail
                            exact ⟨rfl, rfl, grownBy_trans hg0 (grownBy_trans hg1 (grownBy_trans hg2 (grownBy_trans hg3 (grownBy_trans hg4 (grownBy_trans hg5 (grownBy_trans hg6 (grownBy_trans hg7 (grownBy_trans hg8 (hg9))))))))), kk, hp⟩
                        · rw [bind_bad, bind_bad]
                          go_enter Tryd.func38, Tryd.ntmps38
                          go_wp2_with fail
                          obtain ⟨hi0, hg0⟩ := HH.out; refine (scan_ok (blanks_s hi0) hx1).mono ?_; rintro e w1 ⟨rfl, hg1, hi1⟩
                          go_wp2_with fail
                          refine (scan_ok (setv_s hi1) hx2).mono ?_; rintro e w2 ⟨rfl, hg2, hi2⟩
                          go_wp2_with fail
                          refine (scan_ok (blanks_s hi2) hx3).mono ?_; rintro e w3 ⟨rfl, hg3, hi3⟩
                          go_wp2_with fail
                          refine (peek_g hi3 ho6).mono ?_; rintro e w4 ⟨rfl, hg4, hi4⟩
                          go_wp2_with fail
                          refine (scan_ok (sete_s hi4) hx7).mono ?_; rintro e w5 ⟨rfl, hg5, hi5⟩
                          go_wp2_with fail
                          refine (scan_ok (blanks_s hi5) hx8).mono ?_; rintro e w6 ⟨rfl, hg6, hi6⟩
                          go_wp2_with fail
                          refine (peek_g hi6 ho11).mono ?_; rintro e w7 ⟨rfl, hg7, hi7⟩
                          go_wp2_with fail
                          refine (scan_bad (sets_s hi7) hx12).mono ?_; rintro e w8 ⟨rfl, hg8, kk, hp⟩
                          go_wp2_with fail
                          exact ⟨rfl, rfl, grownBy_trans hg0 (grownBy_trans hg1 (grownBy_trans hg2 (grownBy_trans hg3 (grownBy_trans hg4 (grownBy_trans hg5 (grownBy_trans hg6 (grownBy_trans hg7 (hg8)))))))), kk, hp⟩
                      · rw [show dec2S l true k8_ = .ok () k8_ by rw [dec2S, if_pos rfl, peekS_t ho11, bind_ok, if_neg hs11], bind_ok]
                        have hsb11 : (lt l k8_ == 115) = false := by simp [hs11]
                        clear hs11
                        rcases hx16 : signS l 63 k8_ with ⟨_, k16_⟩ | ⟨p, er⟩
                        · rw [bind_ok]
                          rcases hx17 : signS l 62 k16_ with ⟨_, k17_⟩ | ⟨p, er⟩
                          · skip
                            go_enter Tryd.func38, Tryd.ntmps38
                            go_wp2_with fail
                            obtain ⟨hi0, hg0⟩ := HH.out; refine (scan_ok (blanks_s hi0) hx1).mono ?_; rintro e w1 ⟨rfl, hg1, hi1⟩
                            go_wp2_with fail
                            refine (scan_ok (setv_s hi1) hx2).mono ?_; rintro e w2 ⟨rfl, hg2, hi2⟩
                            go_wp2_with fail
                            refine (scan_ok (blanks_s hi2) hx3).mono ?_; rintro e w3 ⟨rfl, hg3, hi3⟩
                            go_wp2_with fail
                            refine (peek_g hi3 ho6).mono ?_; rintro e w4 ⟨rfl, hg4, hi4⟩
                            go_wp2_with fail
                            refine (scan_ok (sete_s hi4) hx7).mono ?_; rintro e w5 ⟨rfl, hg5, hi5⟩
                            go_wp2_with fail
                            refine (scan_ok (blanks_s hi5) hx8).mono ?_; rintro e w6 ⟨rfl, hg6, hi6⟩
                            go_wp2_with fail
                            refine (peek_g hi6 ho11).mono ?_; rintro e w7 ⟨rfl, hg7, hi7⟩
                            go_wp2_with fail
                            refine (scan_ok (sign_s 63 hi7) hx16).mono ?_; rintro e w8 ⟨rfl, hg8, hi8⟩
                            go_wp2_with fail
                            refine (scan_ok (sign_s 62 hi8) hx17).mono ?_; rintro e w9 ⟨rfl, hg9, hi9⟩
                            go_wp2_with fail
                            go_end0
                            exact ⟨rfl, grownBy_trans hg0 (grownBy_trans hg1 (grownBy_trans hg2 (grownBy_trans hg3 (grownBy_trans hg4 (grownBy_trans hg5 (grownBy_trans hg6 (grownBy_trans hg7 (grownBy_trans hg8 (hg9))))))))), hi9⟩
                          · skip
                            go_enter Tryd.func38, Tryd.ntmps38
                            go_wp2_with fail
                            obtain ⟨hi0, hg0⟩ := HH.out; refine (scan_ok (blanks_s hi0) hx1).mono ?_; rintro e w1 ⟨rfl, hg1, hi1⟩
                            go_wp2_with fail
                            refine (scan_ok (setv_s hi1) hx2).mono ?_; rintro e w2 ⟨rfl, hg2, hi2⟩
                            go_wp2_with fail
                            refine (scan_ok (blanks_s hi2) hx3).mono ?_; rintro e w3 ⟨rfl, hg3, hi3⟩
                            go_wp2_with fail
                            refine (peek_g hi3 ho6).mono ?_; rintro e w4 ⟨rfl, hg4, hi4⟩
                            go_wp2_with fail
                            refine (scan_ok (sete_s hi4) hx7).mono ?_; rintro e w5 ⟨rfl, hg5, hi5⟩
                            go_wp2_with fail
                            refine (scan_ok (blanks_s hi5) hx8).mono ?_; rintro e w6 ⟨rfl, hg6, hi6⟩
                            go_wp2_with fail
                            refine (peek_g hi6 ho11).mono ?_; rintro e w7 ⟨rfl, hg7, hi7⟩
                            go_wp2_with fail
                            refine (scan_ok (sign_s 63 hi7) hx16).mono ?_; rintro e w8 ⟨rfl, hg8, hi8⟩
                            go_wp2_with fail
                            refine (scan_bad (sign_s 62 hi8) hx17).mono ?_; rintro e w9 ⟨rfl, hg9, kk, hp⟩
                            go_wp2_with fail
                            exact ⟨rfl, rfl, grownBy_trans hg0 (grownBy_trans hg1 (grownBy_trans hg2 (grownBy_trans hg3 (grownBy_trans hg4 (grownBy_trans hg5 (grownBy_trans hg6 (grownBy_trans hg7 (grownBy_trans hg8 (hg9))))))))), kk, hp⟩
                        · rw [bind_bad]
                          go_enter Tryd.func38, Tryd.ntmps38
                          go_wp2_with fail
                          obtain ⟨hi0, hg0⟩ := HH.out; refine (scan_ok (blanks_s hi0) hx1).mono ?_; rintro e w1 ⟨rfl, hg1, hi1⟩
                          go_wp2_with fail
                          refine (scan_ok (setv_s hi1) hx2).mono ?_; rintro e w2 ⟨rfl, hg2, hi2⟩
                          go_wp2_with fail
                          refine (scan_ok (blanks_s hi2) hx3).mono ?_; rintro e w3 ⟨rfl, hg3, hi3⟩
                          go_wp2_with fail
                          refine (peek_g hi3 ho6).mono ?_; rintro e w4 ⟨rfl, hg4, hi4⟩
                          go_wp2_with fail
                          refine (scan_ok (sete_s hi4) hx7).mono ?_; rintro e w5 ⟨rfl, hg5, hi5⟩
                          go_wp2_with fail
                          refine (scan_ok (blanks_s hi5) hx8).mono ?_; rintro e w6 ⟨rfl, hg6, hi6⟩
                          go_wp2_with fail
                          refine (peek_g hi6 ho11).mono ?_; rintro e w7 ⟨rfl, hg7, hi7⟩
                          go_wp2_with fail
                          refine (scan_bad (sign_s 63 hi7) hx16).mono ?_; rintro e w8 ⟨rfl, hg8, kk, hp⟩
                          go_wp2_with fail
                          exact ⟨rfl, rfl, grownBy_trans hg0 (grownBy_trans hg1 (grownBy_trans hg2 (grownBy_trans hg3 (grownBy_trans hg4 (grownBy_trans hg5 (grownBy_trans hg6 (grownBy_trans hg7 (hg8)))))))), kk, hp⟩
                · rw [bind_bad]
                  go_enter Tryd.func38, Tryd.ntmps38
                  go_wp2_with fail
                  obtain ⟨hi0, hg0⟩ := HH.out; refine (scan_ok (blanks_s hi0) hx1).mono ?_; rintro e w1 ⟨rfl, hg1, hi1⟩
                  go_wp2_with fail
                  refine (scan_ok (setv_s hi1) hx2).mono ?_; rintro e w2 ⟨rfl, hg2, hi2⟩
                  go_wp2_with fail
                  refine (scan_ok (blanks_s hi2) hx3).mono ?_; rintro e w3 ⟨rfl, hg3, hi3⟩
                  go_wp2_with fail
                  refine (peek_g hi3 ho6).mono ?_; rintro e w4 ⟨rfl, hg4, hi4⟩
                  go_wp2_with fail
                  refine (scan_ok (sete_s hi4) hx7).mono ?_; rintro e w5 ⟨rfl, hg5, hi5⟩
                  go_wp2_with fail
                  refine (scan_bad (blanks_s hi5) hx8).mono ?_; rintro e w6 ⟨rfl, hg6, kk, hp⟩
                  go_wp2_with fail
                  exact ⟨rfl, rfl, grownBy_trans hg0 (grownBy_trans hg1 (grownBy_trans hg2 (grownBy_trans hg3 (grownBy_trans hg4 (grownBy_trans hg5 (hg6)))))), kk, hp⟩
              · rw [bind_bad, bind_bad]
                go_enter Tryd.func38, Tryd.ntmps38
                go_wp2_with fail
                obtain ⟨hi0, hg0⟩ := HH.out; refine (scan_ok (blanks_s hi0) hx1).mono ?_; rintro e w1 ⟨rfl, hg1, hi1⟩
                go_wp2_with fail
                refine (scan_ok (setv_s hi1) hx2).mono ?_; rintro e w2 ⟨rfl, hg2, hi2⟩
                go_wp2_with fail
                refine (scan_ok (blanks_s hi2) hx3).mono ?_; rintro e w3 ⟨rfl, hg3, hi3⟩
                go_wp2_with fail
                refine (peek_g hi3 ho6).mono ?_; rintro e w4 ⟨rfl, hg4, hi4⟩
                go_wp2_with fail
                refine (scan_bad (sete_s hi4) hx7).mono ?_; rintro e w5 ⟨rfl, hg5, kk, hp⟩
                go_wp2_with fail
                exact ⟨rfl, rfl, grownBy_trans hg0 (grownBy_trans hg1 (grownBy_trans hg2 (grownBy_trans hg3 (grownBy_trans hg4 (hg5))))), kk, hp⟩
            · rw [show dec1S l true k3_ = .ok true k3_ by rw [dec1S, if_pos rfl, peekS_t ho6, bind_ok, if_neg hs6], bind_ok]
              have hsb6 : (lt l k3_ == 101) = false := by simp [hs6]
              clear hs6
              cases ho18 : okl l k3_
              · rw [show dec2S l true k3_ = .bad k3_ 2 by rw [dec2S, if_pos rfl, peekS_f ho18]; rfl, bind_bad]
                go_enter Tryd.func38, Tryd.ntmps38
                go_wp2_with fail
                obtain ⟨hi0, hg0⟩ := HH.out; refine (scan_ok (blanks_s hi0) hx1).mono ?_; rintro e w1 ⟨rfl, hg1, hi1⟩
                go_wp2_with fail
                refine (scan_ok (setv_s hi1) hx2).mono ?_; rintro e w2 ⟨rfl, hg2, hi2⟩
                go_wp2_with fail
                refine (scan_ok (blanks_s hi2) hx3).mono ?_; rintro e w3 ⟨rfl, hg3, hi3⟩
                go_wp2_with fail
                refine (peek_g hi3 ho6).mono ?_; rintro e w4 ⟨rfl, hg4, hi4⟩
                go_wp2_with fail
                refine (peek_gf hi4 ho18).mono ?_; rintro e w5 ⟨rfl, hg5, hi5⟩
                go_wp2_with fail
                exact ⟨rfl, rfl, grownBy_trans hg0 (grownBy_trans hg1 (grownBy_trans hg2 (grownBy_trans hg3 (grownBy_trans hg4 (hg5))))), _, hi5.ps⟩
              · by_cases hs18 : lt l k3_ = 115
                · rw [show dec2S l true k3_ = (setS l [115, 116, 97, 110, 100, 97, 108, 111, 110, 101] (staS l) k3_).bind fun _ k1 => (blanksS l k1).bind fun _ k2 => .ok () k2 by rw [dec2S, if_pos rfl, peekS_t ho18, bind_ok, if_pos hs18]]
                  rcases hx19 : setS l [115, 116, 97, 110, 100, 97, 108, 111, 110, 101] (staS l) k3_ with ⟨_, k19_⟩ | ⟨p, er⟩
                  · rw [bind_ok]
                    rcases hx20 : blanksS l k19_ with ⟨_, k20_⟩ | ⟨p, er⟩
                    · rw [bind_ok, bind_ok]
                      rcases hx21 : signS l 63 k20_ with ⟨_, k21_⟩ | ⟨p, er⟩
                      · rw [bind_ok]
                        rcases hx22 : signS l 62 k21_ with ⟨_, k22_⟩ | ⟨p, er⟩
                        · skip
                          go_enter Tryd.func38, Tryd.ntmps38
                          go_wp2_with fail
                          obtain ⟨hi0, hg0⟩ := HH.out; refine (scan_ok (blanks_s hi0) hx1).mono ?_; rintro e w1 ⟨rfl, hg1, hi1⟩
                          go_wp2_with fail
                          refine (scan_ok (setv_s hi1) hx2).mono ?_; rintro e w2 ⟨rfl, hg2, hi2⟩
                          go_wp2_with fail
                          refine (scan_ok (blanks_s hi2) hx3).mono ?_; rintro e w3 ⟨rfl, hg3, hi3⟩
                          go_wp2_with fail
                          refine (peek_g hi3 ho6).mono ?_; rintro e w4 ⟨rfl, hg4, hi4⟩
                          go_wp2_with fail
                          refine (peek_g hi4 ho18).mono ?_; rintro e w5 ⟨rfl, hg5, hi5⟩
                          go_wp2_with fail
                          refine (scan_ok (sets_s hi5) hx19).mono ?_; rintro e w6 ⟨rfl, hg6, hi6⟩
                          go_wp2_with fail
                          refine (scan_ok (blanks_s hi6) hx20).mono ?_; rintro e w7 ⟨rfl, hg7, hi7⟩
                          go_wp2_with fail
                          refine (scan_ok (sign_s 63 hi7) hx21).mono ?_; rintro e w8 ⟨rfl, hg8, hi8⟩
                          go_wp2_with fail
                          refine (scan_ok (sign_s 62 hi8) hx22).mono ?_; rintro e w9 ⟨rfl, hg9, hi9⟩
                          go_wp2_with fail
                          go_end0
                          exact ⟨rfl, grownBy_trans hg0 (grownBy_trans hg1 (grownBy_trans hg2 (grownBy_trans hg3 (grownBy_trans hg4 (grownBy_trans hg5 (grownBy_trans hg6 (grownBy_trans hg7 (grownBy_trans hg8 (hg9))))))))), hi9⟩
                        · skip
                          go_enter Tryd.func38, Tryd.ntmps38
                          go_wp2_with fail
                          obtain ⟨hi0, hg0⟩ := HH.out; refine (scan_ok (blanks_s hi0) hx1).mono ?_; rintro e w1 ⟨rfl, hg1, hi1⟩
                          go_wp2_with fail
                          refine (scan_ok (setv_s hi1) hx2).mono ?_; rintro e w2 ⟨rfl, hg2, hi2⟩
                          go_wp2_with fail
                          refine (scan_ok (blanks_s hi2) hx3).mono ?_; rintro e w3 ⟨rfl, hg3, hi3⟩
                          go_wp2_with fail
                          refine (peek_g hi3 ho6).mono ?_; rintro e w4 ⟨rfl, hg4, hi4⟩
                          go_wp2_with fail
                          refine (peek_g hi4 ho18).mono ?_; rintro e w5 ⟨rfl, hg5, hi5⟩
                          go_wp2_with fail
                          refine (scan_ok (sets_s hi5) hx19).mono ?_; rintro e w6 ⟨rfl, hg6, hi6⟩
                          go_wp2_with fail
                          refine (scan_ok (blanks_s hi6) hx20).mono ?_; rintro e w7 ⟨rfl, hg7, hi7⟩
                          go_wp2_with fail
                          refine (scan_ok (sign_s 63 hi7) hx21).mono ?_; rintro e w8 ⟨rfl, hg8, hi8⟩
                          go_wp2_with fail
                          refine (scan_bad (sign_s 62 hi8) hx22).mono ?_; rintro e w9 ⟨rfl, hg9, kk, hp⟩
                          go_wp2_with fail
                          exact ⟨rfl, rfl, grownBy_trans hg0 (grownBy_trans hg1 (grownBy_trans hg2 (grownBy_trans hg3 (grownBy_trans hg4 (grownBy_trans hg5 (grownBy_trans hg6 (grownBy_trans hg7 (grownBy_trans hg8 (hg9))))))))), kk, hp⟩
                      · rw [bind_bad]
                        go_enter Tryd.func38, Tryd.ntmps38
                        go_wp2_with fail
                        obtain ⟨hi0, hg0⟩ := HH.out; refine (scan_ok (blanks_s hi0) hx1).mono ?_; rintro e w1 ⟨rfl, hg1, hi1⟩
                        go_wp2_with fail
                        refine (scan_ok (setv_s hi1) hx2).mono ?_; rintro e w2 ⟨rfl, hg2, hi2⟩
                        go_wp2_with fail
                        refine (scan_ok (blanks_s hi2) hx3).mono ?_; rintro e w3 ⟨rfl, hg3, hi3⟩
                        go_wp2_with fail
                        refine (peek_g hi3 ho6).mono ?_; rintro e w4 ⟨rfl, hg4, hi4⟩
                        go_wp2_with fail
                        refine (peek_g hi4 ho18).mono ?_; rintro e w5 ⟨rfl, hg5, hi5⟩
                        go_wp2_with fail
                        refine (scan_ok (sets_s hi5) hx19).mono ?_; rintro e w6 ⟨rfl, hg6, hi6⟩
                        go_wp2_with fail
                        refine (scan_ok (blanks_s hi6) hx20).mono ?_; rintro e w7 ⟨rfl, hg7, hi7⟩
                        go_wp2_with fail
                        refine (scan_bad (sign_s 63 hi7) hx21).mono ?_; rintro e w8 ⟨rfl, hg8, kk, hp⟩
                        go_wp2_with fail
                        exact ⟨rfl, rfl, grownBy_trans hg0 (grownBy_trans hg1 (grownBy_trans hg2 (grownBy_trans hg3 (grownBy_trans hg4 (grownBy_trans hg5 (grownBy_trans hg6 (grownBy_trans hg7 (hg8)))))))), kk, hp⟩
                    · rw [bind_bad, bind_bad]
                      go_enter Tryd.func38, Tryd.ntmps38
                      go_wp2_with fail
                      obtain ⟨hi0, hg0⟩ := HH.out; refine (scan_ok (blanks_s hi0) hx1).mono ?_; rintro e w1 ⟨rfl, hg1, hi1⟩
                      go_wp2_with fail
                      refine (scan_ok (setv_s hi1) hx2).mono ?_; rintro e w2 ⟨rfl, hg2, hi2⟩
                      go_wp2_with fail
                      refine (scan_ok (blanks_s hi2) hx3).mono ?_; rintro e w3 ⟨rfl, hg3, hi3⟩
                      go_wp2_with fail
                      refine (peek_g hi3 ho6).mono ?_; rintro e w4 ⟨rfl, hg4, hi4⟩
                      go_wp2_with fail
                      refine (peek_g hi4 ho18).mono ?_; rintro e w5 ⟨rfl, hg5, hi5⟩
                      go_wp2_with fail
                      refine (scan_ok (sets_s hi5) hx19).mono ?_; rintro e w6 ⟨rfl, hg6, hi6⟩
                      go_wp2_with fail
                      refine (scan_bad (blanks_s hi6) hx20).mono ?_; rintro e w7 ⟨rfl, hg7, kk, hp⟩
                      go_wp2_with fail
                      exact ⟨rfl, rfl, grownBy_trans hg0 (grownBy_trans hg1 (grownBy_trans hg2 (grownBy_trans hg3 (grownBy_trans hg4 (grownBy_trans hg5 (grownBy_trans hg6 (hg7))))))), kk, hp⟩
                  · rw [bind_bad, bind_bad]
                    go_enter Tryd.func38, Tryd.ntmps38
                    go_wp2_with fail
                    obtain ⟨hi0, hg0⟩ := HH.out; refine (scan_ok (blanks_s hi0) hx1).mono ?_; rintro e w1 ⟨rfl, hg1, hi1⟩
                    go_wp2_with fail
                    refine (scan_ok (setv_s hi1) hx2).mono ?_; rintro e w2 ⟨rfl, hg2, hi2⟩
                    go_wp2_with fail
                    refine (scan_ok (blanks_s hi2) hx3).mono ?_; rintro e w3 ⟨rfl, hg3, hi3⟩
                    go_wp2_with fail
                    refine (peek_g hi3 ho6).mono ?_; rintro e w4 ⟨rfl, hg4, hi4⟩
                    go_wp2_with fail
                    refine (peek_g hi4 ho18).mono ?_; rintro e w5 ⟨rfl, hg5, hi5⟩
                    go_wp2_with fail
                    refine (scan_bad (sets_s hi5) hx19).mono ?_; rintro e w6 ⟨rfl, hg6, kk, hp⟩
                    go_wp2_with fail
                    exact ⟨rfl, rfl, grownBy_trans hg0 (grownBy_trans hg1 (grownBy_trans hg2 (grownBy_trans hg3 (grownBy_trans hg4 (grownBy_trans hg5 (hg6)))))), kk, hp⟩
                · rw [show dec2S l true k3_ = .ok () k3_ by rw [dec2S, if_pos rfl, peekS_t ho18, bind_ok, if_neg hs18], bind_ok]
                  have hsb18 : (lt l k3_ == 115) = false := by simp [hs18]
                  clear hs18
                  rcases hx23 : signS l 63 k3_ with ⟨_, k23_⟩ | ⟨p, er⟩
                  · rw [bind_ok]
                    rcases hx24 : signS l 62 k23_ with ⟨_, k24_⟩ | ⟨p, er⟩
                    · skip
                      go_enter Tryd.func38, Tryd.ntmps38
                      go_wp2_with fail
                      obtain ⟨hi0, hg0⟩ := HH.out; refine (scan_ok (blanks_s hi0) hx1).mono ?_; rintro e w1 ⟨rfl, hg1, hi1⟩
                      go_wp2_with fail
                      refine (scan_ok (setv_s hi1) hx2).mono ?_; rintro e w2 ⟨rfl, hg2, hi2⟩
                      go_wp2_with fail
                      refine (scan_ok (blanks_s hi2) hx3).mono ?_; rintro e w3 ⟨rfl, hg3, hi3⟩
                      go_wp2_with fail
                      refine (peek_g hi3 ho6).mono ?_; rintro e w4 ⟨rfl, hg4, hi4⟩
                      go_wp2_with fail
                      refine (peek_g hi4 ho18).mono ?_; rintro e w5 ⟨rfl, hg5, hi5⟩
                      go_wp2_with fail
                      refine (scan_ok (sign_s 63 hi5) hx23).mono ?_; rintro e w6 ⟨rfl, hg6, hi6⟩
                      go_wp2_with fail
                      refine (scan_ok (sign_s 62 hi6) hx24).mono ?_; rintro e w7 ⟨rfl, hg7, hi7⟩
                      go_wp2_with fail
                      go_end0
                      exact ⟨rfl, grownBy_trans hg0 (grownBy_trans hg1 (grownBy_trans hg2 (grownBy_trans hg3 (grownBy_trans hg4 (grownBy_trans hg5 (grownBy_trans hg6 (hg7))))))), hi7⟩
                    · skip
                      go_enter Tryd.func38, Tryd.ntmps38
                      go_wp2_with fail
                      obtain ⟨hi0, hg0⟩ := HH.out; refine (scan_ok (blanks_s hi0) hx1).mono ?_; rintro e w1 ⟨rfl, hg1, hi1⟩
                      go_wp2_with fail
                      refine (scan_ok (setv_s hi1) hx2).mono ?_; rintro e w2 ⟨rfl, hg2, hi2⟩
                      go_wp2_with fail
                      refine (scan_ok (blanks_s hi2) hx3).mono ?_; rintro e w3 ⟨rfl, hg3, hi3⟩
                      go_wp2_with fail
                      refine (peek_g hi3 ho6).mono ?_; rintro e w4 ⟨rfl, hg4, hi4⟩
                      go_wp2_with fail
                      refine (peek_g hi4 ho18).mono ?_; rintro e w5 ⟨rfl, hg5, hi5⟩
                      go_wp2_with fail
                      refine (scan_ok (sign_s 63 hi5) hx23).mono ?_; rintro e w6 ⟨rfl, hg6, hi6⟩
                      go_wp2_with fail
                      refine (scan_bad (sign_s 62 hi6) hx24).mono ?_; rintro e w7 ⟨rfl, hg7, kk, hp⟩
                      go_wp2_with fail
                      exact ⟨rfl, rfl, grownBy_trans hg0 (grownBy_trans hg1 (grownBy_trans hg2 (grownBy_trans hg3 (grownBy_trans hg4 (grownBy_trans hg5 (grownBy_trans hg6 (hg7))))))), kk, hp⟩
                  · rw [bind_bad]
                    go_enter Tryd.func38, Tryd.ntmps38
                    go_wp2_with fail
                    obtain ⟨hi0, hg0⟩ := HH.out; refine (scan_ok (blanks_s hi0) hx1).mono ?_; rintro e w1 ⟨rfl, hg1, hi1⟩
                    go_wp2_with fail
                    refine (scan_ok (setv_s hi1) hx2).mono ?_; rintro e w2 ⟨rfl, hg2, hi2⟩
                    go_wp2_with fail
                    refine (scan_ok (blanks_s hi2) hx3).mono ?_; rintro e w3 ⟨rfl, hg3, hi3⟩
                    go_wp2_with fail
                    refine (peek_g hi3 ho6).mono ?_; rintro e w4 ⟨rfl, hg4, hi4⟩
                    go_wp2_with fail
                    refine (peek_g hi4 ho18).mono ?_; rintro e w5 ⟨rfl, hg5, hi5⟩
                    go_wp2_with fail
                    refine (scan_bad (sign_s 63 hi5) hx23).mono ?_; rintro e w6 ⟨rfl, hg6, kk, hp⟩
                    go_wp2_with fail
                    exact ⟨rfl, rfl, grownBy_trans hg0 (grownBy_trans hg1 (grownBy_trans hg2 (grownBy_trans hg3 (grownBy_trans hg4 (grownBy_trans hg5 (hg6)))))), kk, hp⟩
      · rw [bind_bad]
        go_enter Tryd.func38, Tryd.ntmps38
        go_wp2_with fail
        obtain ⟨hi0, hg0⟩ := HH.out; refine (scan_ok (blanks_s hi0) hx1).mono ?_; rintro e w1 ⟨rfl, hg1, hi1⟩
        go_wp2_with fail
        refine (scan_ok (setv_s hi1) hx2).mono ?_; rintro e w2 ⟨rfl, hg2, hi2⟩
        go_wp2_with fail
        refine (scan_bad (blanks_s hi2) hx3).mono ?_; rintro e w3 ⟨rfl, hg3, kk, hp⟩
        go_wp2_with fail
        exact ⟨rfl, rfl, grownBy_trans hg0 (grownBy_trans hg1 (grownBy_trans hg2 (hg3))), kk, hp⟩
    · rw [bind_bad]
      go_enter Tryd.func38, Tryd.ntmps38
      go_wp2_with fail
      obtain ⟨hi0, hg0⟩ := HH.out; refine (scan_ok (blanks_s hi0) hx1).mono ?_; rintro e w1 ⟨rfl, hg1, hi1⟩
      go_wp2_with fail
      refine (scan_bad (setv_s hi1) hx2).mono ?_; rintro e w2 ⟨rfl, hg2, kk, hp⟩
      go_wp2_with fail
      exact ⟨rfl, rfl, grownBy_trans hg0 (grownBy_trans hg1 (hg2)), kk, hp⟩
  · rw [bind_bad]
    go_enter Tryd.func38, Tryd.ntmps38
    go_wp2_with fail
    obtain ⟨hi0, hg0⟩ := HH.out; refine (scan_bad (blanks_s hi0) hx1).mono ?_; rintro e w1 ⟨rfl, hg1, kk, hp⟩
    go_wp2_with fail
    exact ⟨rfl, rfl, grownBy_trans hg0 (hg1), kk, hp⟩
end Go.Proofs.YtjcgnbmpnaapdaaDoor
