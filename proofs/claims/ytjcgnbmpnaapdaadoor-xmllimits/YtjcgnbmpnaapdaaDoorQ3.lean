/- The contracts of the declaration's functions: version, encoding, standalone, setting. -/
import Derived.Test.YtjcgnbmpnaapdaaDoorQ2
namespace Go.Proofs.YtjcgnbmpnaapdaaDoor
open Go.RowKit
set_option linter.unusedVariables false

theorem ver_s {P k : Nat} {v : PV} {l : Bs} {w : World} (h : In P w v l k) : Calls Tryd.prog 53 #[pp P] w (Scan P w v l ret0 (verS l k)) := by
  have c1 := h.rd
  rw [verS]
  rcases hw : wordS l k [49, 46, 48] k with ⟨_, k1⟩ | ⟨p, er⟩
  · go_enter Tryd.func53, Tryd.ntmps53
    go_wp2_with (first | (go_at_call 66; refine (scan_ok (word_c #[49, 46, 48] _ [49, 46, 48] (by decide) rfl h) hw).mono ?_; rintro e w1 ⟨rfl, hg1, hi1⟩))
    go_end0
    exact ⟨rfl, hg1, hi1⟩
  · go_enter Tryd.func53, Tryd.ntmps53
    go_wp2_with (first | (go_at_call 66; refine (scan_bad (word_c #[49, 46, 48] _ [49, 46, 48] (by decide) rfl h) hw).mono ?_; rintro e w1 ⟨rfl, hg1, kk, hp⟩))
    exact ⟨rfl, rfl, hg1, kk, hp⟩
theorem sta_s {P k : Nat} {v : PV} {l : Bs} {w : World} (h : In P w v l k) : Calls Tryd.prog 55 #[pp P] w (Scan P w v l ret0 (staS l k)) := by
  have c1 := h.rd
  rw [staS]
  cases hok : okl l k
  · rw [peekS_f hok, bind_bad]
    go_enter Tryd.func55, Tryd.ntmps55
    go_wp2_with (go_at_call 40; refine (peek_f h hok).mono ?_; rintro e w' ⟨rfl, m, rfl⟩)
    exact ⟨rfl, rfl, gd m, v.k, h.ps⟩
  rw [peekS_t hok, bind_ok]
  by_cases h1 : lt l k = 110
  · rw [if_pos h1]
    rcases hw : wordS l k [110, 111] k with ⟨_, k1⟩ | ⟨p, er⟩
    · go_enter Tryd.func55, Tryd.ntmps55
      go_wp2_with (first | (go_at_call 40; refine (peek_t h hok).mono ?_; rintro e w' ⟨rfl, m, rfl⟩) | (go_at_call 66; refine (scan_ok (word_c #[110, 111] _ [110, 111] (by decide) rfl (h.drewN m)) hw).mono ?_; rintro e w1 ⟨rfl, hg1, hi1⟩))
      go_end0
      exact ⟨rfl, grownBy_trans (gd _) hg1, hi1⟩
    · go_enter Tryd.func55, Tryd.ntmps55
      go_wp2_with (first | (go_at_call 40; refine (peek_t h hok).mono ?_; rintro e w' ⟨rfl, m, rfl⟩) | (go_at_call 66; refine (scan_bad (word_c #[110, 111] _ [110, 111] (by decide) rfl (h.drewN m)) hw).mono ?_; rintro e w1 ⟨rfl, hg1, kk, hp⟩))
      exact ⟨rfl, rfl, grownBy_trans (gd _) hg1, kk, hp⟩
  · rw [if_neg h1]
    have h1b : (lt l k == 110) = false := by simp [h1]
    clear h1
    rcases hw : wordS l k [121, 101, 115] k with ⟨_, k1⟩ | ⟨p, er⟩
    · go_enter Tryd.func55, Tryd.ntmps55
      go_wp2_with (first | (go_at_call 40; refine (peek_t h hok).mono ?_; rintro e w' ⟨rfl, m, rfl⟩) | (go_at_call 66; refine (scan_ok (word_c #[121, 101, 115] _ [121, 101, 115] (by decide) rfl (h.drewN m)) hw).mono ?_; rintro e w1 ⟨rfl, hg1, hi1⟩))
      go_end0
      exact ⟨rfl, grownBy_trans (gd _) hg1, hi1⟩
    · go_enter Tryd.func55, Tryd.ntmps55
      go_wp2_with (first | (go_at_call 40; refine (peek_t h hok).mono ?_; rintro e w' ⟨rfl, m, rfl⟩) | (go_at_call 66; refine (scan_bad (word_c #[121, 101, 115] _ [121, 101, 115] (by decide) rfl (h.drewN m)) hw).mono ?_; rintro e w1 ⟨rfl, hg1, kk, hp⟩))
      exact ⟨rfl, rfl, grownBy_trans (gd _) hg1, kk, hp⟩
def encW : List (Int × Int) := [(85, 117), (84, 116), (70, 102), (45, 45), (56, 56)]
set_option maxRecDepth 20000 in
set_option maxHeartbeats 1600000 in
theorem enc_s {P k : Nat} {v : PV} {l : Bs} {w : World} (h : In P w v l k) : Calls Tryd.prog 54 #[pp P] w (Scan P w v l ret0 (encS l k)) := by
  have c1 := h.rd
  rw [encS]
  go_enter Tryd.func54, Tryd.ntmps54
  go_wp2
  go_loopg [9] 5 (fun n v9 wr => ∃ i j : Nat, i + n = 5 ∧ v9 = .int .i64 i ∧ w.grownBy wr (some P) ∧ In P wr { v with k := (j : Int) } l j ∧ Hid (encL l k (encW.drop i) j = encL l k encW k))
  case atStart => exact ⟨0, k, by omega, rfl, World.grownBy.refl _ _, h.self, rfl⟩
  case round =>
    obtain ⟨i, j, hin, rfl, hg, hi, HF⟩ := hrel
    by_cases hi5 : i < 5
    · cases hok : okl l j
      · have HR : Hid (encL l k encW k = .bad j 2) := by
          rw [← HF.out]
          rcases (by omega : i = 0 ∨ i = 1 ∨ i = 2 ∨ i = 3 ∨ i = 4) with rfl | rfl | rfl | rfl | rfl <;> (show encL l k (_ :: _) j = _; rw [encL, takeS_f hok]; rfl)
        go_wp2_with (first | (go_at_call 41; refine (take_f hi hok).mono ?_; rintro e w' ⟨rfl, hg2, kk, hp⟩))
        refine ⟨rfl, ?_⟩
        show Scan P w v l ret0 (encL l k encW k) _ _
        rw [HR.out]
        exact ⟨rfl, grownBy_trans hg hg2, kk, hp⟩
      · rcases (by omega : i = 0 ∨ i = 1 ∨ i = 2 ∨ i = 3 ∨ i = 4) with rfl | rfl | rfl | rfl | rfl
        · have t0 : (((⟨#[85, 84, 70, 45, 56]⟩ : ByteArray)[0]).toNat : Int) = 85 := rfl
          have t1 : (((⟨#[117, 116, 102, 45, 56]⟩ : ByteArray)[0]).toNat : Int) = 117 := rfl
          by_cases hr : lt l j = 85 ∨ lt l j = 117
          · have HS : Hid (encL l k (encW.drop (0 + 1)) (j + ln l j) = encL l k encW k) := by
              rw [← HF.out]
              show _ = encL l k ((85, 117) :: encW.drop (0 + 1)) j
              rw [encL, takeS_t hok, bind_ok, if_pos hr]
            rcases hr with hr | hr
            all_goals
              go_wp2_with (first | (go_at_call 41; refine (take_t hi hok).mono ?_; rintro e w' ⟨rfl, hg2, hi2⟩))
              go_roundg 4
              case measure => omega
              case rel => exact ⟨1, j + ln l j, by omega, rfl, grownBy_trans hg hg2, hi2, HS⟩
          · have HR : Hid (encL l k encW k = .bad k 2) := by
              rw [← HF.out]
              show encL l k ((85, 117) :: encW.drop (0 + 1)) j = _
              rw [encL, takeS_t hok, bind_ok, if_neg hr]
            have n1 : (lt l j != 85) = true := by simp; exact fun e => hr (.inl e)
            have n2 : (lt l j != 117) = true := by simp; exact fun e => hr (.inr e)
            clear hr
            go_wp2_with (first | (go_at_call 41; refine (take_t hi hok).mono ?_; rintro e w' ⟨rfl, hg2, hi2⟩) | (go_at_call 47; refine (fail_any _ _ _).mono ?_; rintro e w' ⟨rfl, rfl⟩))
            refine ⟨rfl, ?_⟩
            show Scan P w v l ret0 (encL l k encW k) _ _
            rw [HR.out]
            exact ⟨rfl, grownBy_trans hg hg2, _, hi2.ps⟩
        · have t0 : (((⟨#[85, 84, 70, 45, 56]⟩ : ByteArray)[1]).toNat : Int) = 84 := rfl
          have t1 : (((⟨#[117, 116, 102, 45, 56]⟩ : ByteArray)[1]).toNat : Int) = 116 := rfl
          by_cases hr : lt l j = 84 ∨ lt l j = 116
          · have HS : Hid (encL l k (encW.drop (1 + 1)) (j + ln l j) = encL l k encW k) := by
              rw [← HF.out]
              show _ = encL l k ((84, 116) :: encW.drop (1 + 1)) j
              rw [encL, takeS_t hok, bind_ok, if_pos hr]
            rcases hr with hr | hr
            all_goals
              go_wp2_with (first | (go_at_call 41; refine (take_t hi hok).mono ?_; rintro e w' ⟨rfl, hg2, hi2⟩))
              go_roundg 3
              case measure => omega
              case rel => exact ⟨2, j + ln l j, by omega, rfl, grownBy_trans hg hg2, hi2, HS⟩
          · have HR : Hid (encL l k encW k = .bad k 2) := by
              rw [← HF.out]
              show encL l k ((84, 116) :: encW.drop (1 + 1)) j = _
              rw [encL, takeS_t hok, bind_ok, if_neg hr]
            have n1 : (lt l j != 84) = true := by simp; exact fun e => hr (.inl e)
            have n2 : (lt l j != 116) = true := by simp; exact fun e => hr (.inr e)
            clear hr
            go_wp2_with (first | (go_at_call 41; refine (take_t hi hok).mono ?_; rintro e w' ⟨rfl, hg2, hi2⟩) | (go_at_call 47; refine (fail_any _ _ _).mono ?_; rintro e w' ⟨rfl, rfl⟩))
            refine ⟨rfl, ?_⟩
            show Scan P w v l ret0 (encL l k encW k) _ _
            rw [HR.out]
            exact ⟨rfl, grownBy_trans hg hg2, _, hi2.ps⟩
        · have t0 : (((⟨#[85, 84, 70, 45, 56]⟩ : ByteArray)[2]).toNat : Int) = 70 := rfl
          have t1 : (((⟨#[117, 116, 102, 45, 56]⟩ : ByteArray)[2]).toNat : Int) = 102 := rfl
          by_cases hr : lt l j = 70 ∨ lt l j = 102
          · have HS : Hid (encL l k (encW.drop (2 + 1)) (j + ln l j) = encL l k encW k) := by
              rw [← HF.out]
              show _ = encL l k ((70, 102) :: encW.drop (2 + 1)) j
              rw [encL, takeS_t hok, bind_ok, if_pos hr]
            rcases hr with hr | hr
            all_goals
              go_wp2_with (first | (go_at_call 41; refine (take_t hi hok).mono ?_; rintro e w' ⟨rfl, hg2, hi2⟩))
              go_roundg 2
              case measure => omega
              case rel => exact ⟨3, j + ln l j, by omega, rfl, grownBy_trans hg hg2, hi2, HS⟩
          · have HR : Hid (encL l k encW k = .bad k 2) := by
              rw [← HF.out]
              show encL l k ((70, 102) :: encW.drop (2 + 1)) j = _
              rw [encL, takeS_t hok, bind_ok, if_neg hr]
            have n1 : (lt l j != 70) = true := by simp; exact fun e => hr (.inl e)
            have n2 : (lt l j != 102) = true := by simp; exact fun e => hr (.inr e)
            clear hr
            go_wp2_with (first | (go_at_call 41; refine (take_t hi hok).mono ?_; rintro e w' ⟨rfl, hg2, hi2⟩) | (go_at_call 47; refine (fail_any _ _ _).mono ?_; rintro e w' ⟨rfl, rfl⟩))
            refine ⟨rfl, ?_⟩
            show Scan P w v l ret0 (encL l k encW k) _ _
            rw [HR.out]
            exact ⟨rfl, grownBy_trans hg hg2, _, hi2.ps⟩
        · have t0 : (((⟨#[85, 84, 70, 45, 56]⟩ : ByteArray)[3]).toNat : Int) = 45 := rfl
          have t1 : (((⟨#[117, 116, 102, 45, 56]⟩ : ByteArray)[3]).toNat : Int) = 45 := rfl
          by_cases hr : lt l j = 45 ∨ lt l j = 45
          · have HS : Hid (encL l k (encW.drop (3 + 1)) (j + ln l j) = encL l k encW k) := by
              rw [← HF.out]
              show _ = encL l k ((45, 45) :: encW.drop (3 + 1)) j
              rw [encL, takeS_t hok, bind_ok, if_pos hr]
            rcases hr with hr | hr
            all_goals
              go_wp2_with (first | (go_at_call 41; refine (take_t hi hok).mono ?_; rintro e w' ⟨rfl, hg2, hi2⟩))
              go_roundg 1
              case measure => omega
              case rel => exact ⟨4, j + ln l j, by omega, rfl, grownBy_trans hg hg2, hi2, HS⟩
          · have HR : Hid (encL l k encW k = .bad k 2) := by
              rw [← HF.out]
              show encL l k ((45, 45) :: encW.drop (3 + 1)) j = _
              rw [encL, takeS_t hok, bind_ok, if_neg hr]
            have n1 : (lt l j != 45) = true := by simp; exact fun e => hr (.inl e)
            have n2 : (lt l j != 45) = true := by simp; exact fun e => hr (.inr e)
            clear hr
            go_wp2_with (first | (go_at_call 41; refine (take_t hi hok).mono ?_; rintro e w' ⟨rfl, hg2, hi2⟩) | (go_at_call 47; refine (fail_any _ _ _).mono ?_; rintro e w' ⟨rfl, rfl⟩))
            refine ⟨rfl, ?_⟩
            show Scan P w v l ret0 (encL l k encW k) _ _
            rw [HR.out]
            exact ⟨rfl, grownBy_trans hg hg2, _, hi2.ps⟩
        · have t0 : (((⟨#[85, 84, 70, 45, 56]⟩ : ByteArray)[4]).toNat : Int) = 56 := rfl
          have t1 : (((⟨#[117, 116, 102, 45, 56]⟩ : ByteArray)[4]).toNat : Int) = 56 := rfl
          by_cases hr : lt l j = 56 ∨ lt l j = 56
          · have HS : Hid (encL l k (encW.drop (4 + 1)) (j + ln l j) = encL l k encW k) := by
              rw [← HF.out]
              show _ = encL l k ((56, 56) :: encW.drop (4 + 1)) j
              rw [encL, takeS_t hok, bind_ok, if_pos hr]
            rcases hr with hr | hr
            all_goals
              go_wp2_with (first | (go_at_call 41; refine (take_t hi hok).mono ?_; rintro e w' ⟨rfl, hg2, hi2⟩))
              go_roundg 0
              case measure => omega
              case rel => exact ⟨5, j + ln l j, by omega, rfl, grownBy_trans hg hg2, hi2, HS⟩
          · have HR : Hid (encL l k encW k = .bad k 2) := by
              rw [← HF.out]
              show encL l k ((56, 56) :: encW.drop (4 + 1)) j = _
              rw [encL, takeS_t hok, bind_ok, if_neg hr]
            have n1 : (lt l j != 56) = true := by simp; exact fun e => hr (.inl e)
            have n2 : (lt l j != 56) = true := by simp; exact fun e => hr (.inr e)
            clear hr
            go_wp2_with (first | (go_at_call 41; refine (take_t hi hok).mono ?_; rintro e w' ⟨rfl, hg2, hi2⟩) | (go_at_call 47; refine (fail_any _ _ _).mono ?_; rintro e w' ⟨rfl, rfl⟩))
            refine ⟨rfl, ?_⟩
            show Scan P w v l ret0 (encL l k encW k) _ _
            rw [HR.out]
            exact ⟨rfl, grownBy_trans hg hg2, _, hi2.ps⟩
    · obtain rfl : i = 5 := by omega
      have HR : Hid (encL l k encW k = .ok () j) := by rw [← HF.out]; exact rfl
      go_wp2
      go_end0
      show Scan P w v l ret0 (encL l k encW k) _ _
      rw [HR.out]
      exact ⟨rfl, hg, hi⟩
set_option maxHeartbeats 800000 in
theorem setv_s {P k : Nat} {v : PV} {l : Bs} {w : World} (h : In P w v l k) : Calls Tryd.prog 52 #[pp P, .string ⟨#[118, 101, 114, 115, 105, 111, 110]⟩, .func (.func 53) #[pp P] #[]] w (Scan P w v l ret0 (setS l [118, 101, 114, 115, 105, 111, 110] (verS l) k)) := by
  have c1 := h.rd
  rw [setS]
  rcases hw : wordS l k [118, 101, 114, 115, 105, 111, 110] k with ⟨_, k1⟩ | ⟨p, er⟩
  · rw [bind_ok]
    rcases he : eqS l k1 with ⟨_, k2⟩ | ⟨p, er⟩
    · rw [bind_ok]
      rcases hq : quoteS l k2 with ⟨q, k3⟩ | ⟨p, er⟩
      · rw [bind_ok]
        rcases hv : verS l k3 with ⟨_, k4⟩ | ⟨p, er⟩
        · rw [bind_ok]
          rcases hs : signS l q k4 with ⟨_, k5⟩ | ⟨p, er⟩
          · skip
            go_enter Tryd.func52, Tryd.ntmps52
            go_wp2_with (first | (go_at_call 66; refine (scan_ok (word_c #[118, 101, 114, 115, 105, 111, 110] _ [118, 101, 114, 115, 105, 111, 110] (by decide) rfl h) hw).mono ?_; rintro e w1 ⟨rfl, hg1, hi1⟩) | (go_at_call 70; refine (scan_ok (eq_s hi1) he).mono ?_; rintro e w2 ⟨rfl, hg2, hi2⟩) | (go_at_call 71; refine (scan_ok (quote_s hi2) hq).mono ?_; rintro e w3 ⟨rfl, hg3, hi3⟩) | (go_at_call 53; refine (scan_ok (ver_s hi3) hv).mono ?_; rintro e w4 ⟨rfl, hg4, hi4⟩) | (go_at_call 56; refine (scan_ok (sign_s q hi4) hs).mono ?_; rintro e w5 ⟨rfl, hg5, hi5⟩))
            go_end0
            exact ⟨rfl, grownBy_trans hg1 (grownBy_trans hg2 (grownBy_trans hg3 (grownBy_trans hg4 hg5))), hi5⟩
          · skip
            go_enter Tryd.func52, Tryd.ntmps52
            go_wp2_with (first | (go_at_call 66; refine (scan_ok (word_c #[118, 101, 114, 115, 105, 111, 110] _ [118, 101, 114, 115, 105, 111, 110] (by decide) rfl h) hw).mono ?_; rintro e w1 ⟨rfl, hg1, hi1⟩) | (go_at_call 70; refine (scan_ok (eq_s hi1) he).mono ?_; rintro e w2 ⟨rfl, hg2, hi2⟩) | (go_at_call 71; refine (scan_ok (quote_s hi2) hq).mono ?_; rintro e w3 ⟨rfl, hg3, hi3⟩) | (go_at_call 53; refine (scan_ok (ver_s hi3) hv).mono ?_; rintro e w4 ⟨rfl, hg4, hi4⟩) | (go_at_call 56; refine (scan_bad (sign_s q hi4) hs).mono ?_; rintro e w5 ⟨rfl, hg5, kk, hp⟩))
            exact ⟨rfl, rfl, grownBy_trans hg1 (grownBy_trans hg2 (grownBy_trans hg3 (grownBy_trans hg4 hg5))), kk, hp⟩
        · rw [bind_bad]
          go_enter Tryd.func52, Tryd.ntmps52
          go_wp2_with (first | (go_at_call 66; refine (scan_ok (word_c #[118, 101, 114, 115, 105, 111, 110] _ [118, 101, 114, 115, 105, 111, 110] (by decide) rfl h) hw).mono ?_; rintro e w1 ⟨rfl, hg1, hi1⟩) | (go_at_call 70; refine (scan_ok (eq_s hi1) he).mono ?_; rintro e w2 ⟨rfl, hg2, hi2⟩) | (go_at_call 71; refine (scan_ok (quote_s hi2) hq).mono ?_; rintro e w3 ⟨rfl, hg3, hi3⟩) | (go_at_call 53; refine (scan_bad (ver_s hi3) hv).mono ?_; rintro e w4 ⟨rfl, hg4, kk, hp⟩))
          exact ⟨rfl, rfl, grownBy_trans hg1 (grownBy_trans hg2 (grownBy_trans hg3 hg4)), kk, hp⟩
      · rw [bind_bad]
        go_enter Tryd.func52, Tryd.ntmps52
        go_wp2_with (first | (go_at_call 66; refine (scan_ok (word_c #[118, 101, 114, 115, 105, 111, 110] _ [118, 101, 114, 115, 105, 111, 110] (by decide) rfl h) hw).mono ?_; rintro e w1 ⟨rfl, hg1, hi1⟩) | (go_at_call 70; refine (scan_ok (eq_s hi1) he).mono ?_; rintro e w2 ⟨rfl, hg2, hi2⟩) | (go_at_call 71; refine (scan_bad (quote_s hi2) hq).mono ?_; rintro e w3 ⟨rfl, hg3, kk, hp⟩))
        exact ⟨rfl, rfl, grownBy_trans hg1 (grownBy_trans hg2 hg3), kk, hp⟩
    · rw [bind_bad]
      go_enter Tryd.func52, Tryd.ntmps52
      go_wp2_with (first | (go_at_call 66; refine (scan_ok (word_c #[118, 101, 114, 115, 105, 111, 110] _ [118, 101, 114, 115, 105, 111, 110] (by decide) rfl h) hw).mono ?_; rintro e w1 ⟨rfl, hg1, hi1⟩) | (go_at_call 70; refine (scan_bad (eq_s hi1) he).mono ?_; rintro e w2 ⟨rfl, hg2, kk, hp⟩))
      exact ⟨rfl, rfl, grownBy_trans hg1 hg2, kk, hp⟩
  · rw [bind_bad]
    go_enter Tryd.func52, Tryd.ntmps52
    go_wp2_with (first | (go_at_call 66; refine (scan_bad (word_c #[118, 101, 114, 115, 105, 111, 110] _ [118, 101, 114, 115, 105, 111, 110] (by decide) rfl h) hw).mono ?_; rintro e w1 ⟨rfl, hg1, kk, hp⟩))
    exact ⟨rfl, rfl, hg1, kk, hp⟩
set_option maxHeartbeats 800000 in
theorem sete_s {P k : Nat} {v : PV} {l : Bs} {w : World} (h : In P w v l k) : Calls Tryd.prog 52 #[pp P, .string ⟨#[101, 110, 99, 111, 100, 105, 110, 103]⟩, .func (.func 54) #[pp P] #[]] w (Scan P w v l ret0 (setS l [101, 110, 99, 111, 100, 105, 110, 103] (encS l) k)) := by
  have c1 := h.rd
  rw [setS]
  rcases hw : wordS l k [101, 110, 99, 111, 100, 105, 110, 103] k with ⟨_, k1⟩ | ⟨p, er⟩
  · rw [bind_ok]
    rcases he : eqS l k1 with ⟨_, k2⟩ | ⟨p, er⟩
    · rw [bind_ok]
      rcases hq : quoteS l k2 with ⟨q, k3⟩ | ⟨p, er⟩
      · rw [bind_ok]
        rcases hv : encS l k3 with ⟨_, k4⟩ | ⟨p, er⟩
        · rw [bind_ok]
          rcases hs : signS l q k4 with ⟨_, k5⟩ | ⟨p, er⟩
          · skip
            go_enter Tryd.func52, Tryd.ntmps52
            go_wp2_with (first | (go_at_call 66; refine (scan_ok (word_c #[101, 110, 99, 111, 100, 105, 110, 103] _ [101, 110, 99, 111, 100, 105, 110, 103] (by decide) rfl h) hw).mono ?_; rintro e w1 ⟨rfl, hg1, hi1⟩) | (go_at_call 70; refine (scan_ok (eq_s hi1) he).mono ?_; rintro e w2 ⟨rfl, hg2, hi2⟩) | (go_at_call 71; refine (scan_ok (quote_s hi2) hq).mono ?_; rintro e w3 ⟨rfl, hg3, hi3⟩) | (go_at_call 54; refine (scan_ok (enc_s hi3) hv).mono ?_; rintro e w4 ⟨rfl, hg4, hi4⟩) | (go_at_call 56; refine (scan_ok (sign_s q hi4) hs).mono ?_; rintro e w5 ⟨rfl, hg5, hi5⟩))
            go_end0
            exact ⟨rfl, grownBy_trans hg1 (grownBy_trans hg2 (grownBy_trans hg3 (grownBy_trans hg4 hg5))), hi5⟩
          · skip
            go_enter Tryd.func52, Tryd.ntmps52
            go_wp2_with (first | (go_at_call 66; refine (scan_ok (word_c #[101, 110, 99, 111, 100, 105, 110, 103] _ [101, 110, 99, 111, 100, 105, 110, 103] (by decide) rfl h) hw).mono ?_; rintro e w1 ⟨rfl, hg1, hi1⟩) | (go_at_call 70; refine (scan_ok (eq_s hi1) he).mono ?_; rintro e w2 ⟨rfl, hg2, hi2⟩) | (go_at_call 71; refine (scan_ok (quote_s hi2) hq).mono ?_; rintro e w3 ⟨rfl, hg3, hi3⟩) | (go_at_call 54; refine (scan_ok (enc_s hi3) hv).mono ?_; rintro e w4 ⟨rfl, hg4, hi4⟩) | (go_at_call 56; refine (scan_bad (sign_s q hi4) hs).mono ?_; rintro e w5 ⟨rfl, hg5, kk, hp⟩))
            exact ⟨rfl, rfl, grownBy_trans hg1 (grownBy_trans hg2 (grownBy_trans hg3 (grownBy_trans hg4 hg5))), kk, hp⟩
        · rw [bind_bad]
          go_enter Tryd.func52, Tryd.ntmps52
          go_wp2_with (first | (go_at_call 66; refine (scan_ok (word_c #[101, 110, 99, 111, 100, 105, 110, 103] _ [101, 110, 99, 111, 100, 105, 110, 103] (by decide) rfl h) hw).mono ?_; rintro e w1 ⟨rfl, hg1, hi1⟩) | (go_at_call 70; refine (scan_ok (eq_s hi1) he).mono ?_; rintro e w2 ⟨rfl, hg2, hi2⟩) | (go_at_call 71; refine (scan_ok (quote_s hi2) hq).mono ?_; rintro e w3 ⟨rfl, hg3, hi3⟩) | (go_at_call 54; refine (scan_bad (enc_s hi3) hv).mono ?_; rintro e w4 ⟨rfl, hg4, kk, hp⟩))
          exact ⟨rfl, rfl, grownBy_trans hg1 (grownBy_trans hg2 (grownBy_trans hg3 hg4)), kk, hp⟩
      · rw [bind_bad]
        go_enter Tryd.func52, Tryd.ntmps52
        go_wp2_with (first | (go_at_call 66; refine (scan_ok (word_c #[101, 110, 99, 111, 100, 105, 110, 103] _ [101, 110, 99, 111, 100, 105, 110, 103] (by decide) rfl h) hw).mono ?_; rintro e w1 ⟨rfl, hg1, hi1⟩) | (go_at_call 70; refine (scan_ok (eq_s hi1) he).mono ?_; rintro e w2 ⟨rfl, hg2, hi2⟩) | (go_at_call 71; refine (scan_bad (quote_s hi2) hq).mono ?_; rintro e w3 ⟨rfl, hg3, kk, hp⟩))
        exact ⟨rfl, rfl, grownBy_trans hg1 (grownBy_trans hg2 hg3), kk, hp⟩
    · rw [bind_bad]
      go_enter Tryd.func52, Tryd.ntmps52
      go_wp2_with (first | (go_at_call 66; refine (scan_ok (word_c #[101, 110, 99, 111, 100, 105, 110, 103] _ [101, 110, 99, 111, 100, 105, 110, 103] (by decide) rfl h) hw).mono ?_; rintro e w1 ⟨rfl, hg1, hi1⟩) | (go_at_call 70; refine (scan_bad (eq_s hi1) he).mono ?_; rintro e w2 ⟨rfl, hg2, kk, hp⟩))
      exact ⟨rfl, rfl, grownBy_trans hg1 hg2, kk, hp⟩
  · rw [bind_bad]
    go_enter Tryd.func52, Tryd.ntmps52
    go_wp2_with (first | (go_at_call 66; refine (scan_bad (word_c #[101, 110, 99, 111, 100, 105, 110, 103] _ [101, 110, 99, 111, 100, 105, 110, 103] (by decide) rfl h) hw).mono ?_; rintro e w1 ⟨rfl, hg1, kk, hp⟩))
    exact ⟨rfl, rfl, hg1, kk, hp⟩
set_option maxHeartbeats 800000 in
theorem sets_s {P k : Nat} {v : PV} {l : Bs} {w : World} (h : In P w v l k) : Calls Tryd.prog 52 #[pp P, .string ⟨#[115, 116, 97, 110, 100, 97, 108, 111, 110, 101]⟩, .func (.func 55) #[pp P] #[]] w (Scan P w v l ret0 (setS l [115, 116, 97, 110, 100, 97, 108, 111, 110, 101] (staS l) k)) := by
  have c1 := h.rd
  rw [setS]
  rcases hw : wordS l k [115, 116, 97, 110, 100, 97, 108, 111, 110, 101] k with ⟨_, k1⟩ | ⟨p, er⟩
  · rw [bind_ok]
    rcases he : eqS l k1 with ⟨_, k2⟩ | ⟨p, er⟩
    · rw [bind_ok]
      rcases hq : quoteS l k2 with ⟨q, k3⟩ | ⟨p, er⟩
      · rw [bind_ok]
        rcases hv : staS l k3 with ⟨_, k4⟩ | ⟨p, er⟩
        · rw [bind_ok]
          rcases hs : signS l q k4 with ⟨_, k5⟩ | ⟨p, er⟩
          · skip
            go_enter Tryd.func52, Tryd.ntmps52
            go_wp2_with (first | (go_at_call 66; refine (scan_ok (word_c #[115, 116, 97, 110, 100, 97, 108, 111, 110, 101] _ [115, 116, 97, 110, 100, 97, 108, 111, 110, 101] (by decide) rfl h) hw).mono ?_; rintro e w1 ⟨rfl, hg1, hi1⟩) | (go_at_call 70; refine (scan_ok (eq_s hi1) he).mono ?_; rintro e w2 ⟨rfl, hg2, hi2⟩) | (go_at_call 71; refine (scan_ok (quote_s hi2) hq).mono ?_; rintro e w3 ⟨rfl, hg3, hi3⟩) | (go_at_call 55; refine (scan_ok (sta_s hi3) hv).mono ?_; rintro e w4 ⟨rfl, hg4, hi4⟩) | (go_at_call 56; refine (scan_ok (sign_s q hi4) hs).mono ?_; rintro e w5 ⟨rfl, hg5, hi5⟩))
            go_end0
            exact ⟨rfl, grownBy_trans hg1 (grownBy_trans hg2 (grownBy_trans hg3 (grownBy_trans hg4 hg5))), hi5⟩
          · skip
            go_enter Tryd.func52, Tryd.ntmps52
            go_wp2_with (first | (go_at_call 66; refine (scan_ok (word_c #[115, 116, 97, 110, 100, 97, 108, 111, 110, 101] _ [115, 116, 97, 110, 100, 97, 108, 111, 110, 101] (by decide) rfl h) hw).mono ?_; rintro e w1 ⟨rfl, hg1, hi1⟩) | (go_at_call 70; refine (scan_ok (eq_s hi1) he).mono ?_; rintro e w2 ⟨rfl, hg2, hi2⟩) | (go_at_call 71; refine (scan_ok (quote_s hi2) hq).mono ?_; rintro e w3 ⟨rfl, hg3, hi3⟩) | (go_at_call 55; refine (scan_ok (sta_s hi3) hv).mono ?_; rintro e w4 ⟨rfl, hg4, hi4⟩) | (go_at_call 56; refine (scan_bad (sign_s q hi4) hs).mono ?_; rintro e w5 ⟨rfl, hg5, kk, hp⟩))
            exact ⟨rfl, rfl, grownBy_trans hg1 (grownBy_trans hg2 (grownBy_trans hg3 (grownBy_trans hg4 hg5))), kk, hp⟩
        · rw [bind_bad]
          go_enter Tryd.func52, Tryd.ntmps52
          go_wp2_with (first | (go_at_call 66; refine (scan_ok (word_c #[115, 116, 97, 110, 100, 97, 108, 111, 110, 101] _ [115, 116, 97, 110, 100, 97, 108, 111, 110, 101] (by decide) rfl h) hw).mono ?_; rintro e w1 ⟨rfl, hg1, hi1⟩) | (go_at_call 70; refine (scan_ok (eq_s hi1) he).mono ?_; rintro e w2 ⟨rfl, hg2, hi2⟩) | (go_at_call 71; refine (scan_ok (quote_s hi2) hq).mono ?_; rintro e w3 ⟨rfl, hg3, hi3⟩) | (go_at_call 55; refine (scan_bad (sta_s hi3) hv).mono ?_; rintro e w4 ⟨rfl, hg4, kk, hp⟩))
          exact ⟨rfl, rfl, grownBy_trans hg1 (grownBy_trans hg2 (grownBy_trans hg3 hg4)), kk, hp⟩
      · rw [bind_bad]
        go_enter Tryd.func52, Tryd.ntmps52
        go_wp2_with (first | (go_at_call 66; refine (scan_ok (word_c #[115, 116, 97, 110, 100, 97, 108, 111, 110, 101] _ [115, 116, 97, 110, 100, 97, 108, 111, 110, 101] (by decide) rfl h) hw).mono ?_; rintro e w1 ⟨rfl, hg1, hi1⟩) | (go_at_call 70; refine (scan_ok (eq_s hi1) he).mono ?_; rintro e w2 ⟨rfl, hg2, hi2⟩) | (go_at_call 71; refine (scan_bad (quote_s hi2) hq).mono ?_; rintro e w3 ⟨rfl, hg3, kk, hp⟩))
        exact ⟨rfl, rfl, grownBy_trans hg1 (grownBy_trans hg2 hg3), kk, hp⟩
    · rw [bind_bad]
      go_enter Tryd.func52, Tryd.ntmps52
      go_wp2_with (first | (go_at_call 66; refine (scan_ok (word_c #[115, 116, 97, 110, 100, 97, 108, 111, 110, 101] _ [115, 116, 97, 110, 100, 97, 108, 111, 110, 101] (by decide) rfl h) hw).mono ?_; rintro e w1 ⟨rfl, hg1, hi1⟩) | (go_at_call 70; refine (scan_bad (eq_s hi1) he).mono ?_; rintro e w2 ⟨rfl, hg2, kk, hp⟩))
      exact ⟨rfl, rfl, grownBy_trans hg1 hg2, kk, hp⟩
  · rw [bind_bad]
    go_enter Tryd.func52, Tryd.ntmps52
    go_wp2_with (first | (go_at_call 66; refine (scan_bad (word_c #[115, 116, 97, 110, 100, 97, 108, 111, 110, 101] _ [115, 116, 97, 110, 100, 97, 108, 111, 110, 101] (by decide) rfl h) hw).mono ?_; rintro e w1 ⟨rfl, hg1, kk, hp⟩))
    exact ⟨rfl, rfl, hg1, kk, hp⟩
end Go.Proofs.YtjcgnbmpnaapdaaDoor
