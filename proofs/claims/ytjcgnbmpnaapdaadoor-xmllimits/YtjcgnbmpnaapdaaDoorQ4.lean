/- The contract of declaration. -/
import Derived.Test.YtjcgnbmpnaapdaaDoorQ3
namespace Go.Proofs.YtjcgnbmpnaapdaaDoor
open Go.RowKit
set_option linter.unusedVariables false

theorem peek_g {P k : Nat} {v : PV} {l : Bs} {w : World} (h : In P w v l k) (hok : okl l k = true) :
    Calls Tryd.prog 40 #[pp P] w fun e w' => e = .returned (.int .i32 (lt l k)) ∧ w.grownBy w' (some P) ∧ In P w' v l k := by
  refine (peek_t h hok).mono ?_
  rintro e w' ⟨rfl, m, rfl⟩
  exact ⟨rfl, gd m, h.drewN m⟩
theorem peek_gf {P k : Nat} {v : PV} {l : Bs} {w : World} (h : In P w v l k) (hok : okl l k = false) :
    Calls Tryd.prog 40 #[pp P] w fun e w' => e = .panicked (flt k 2) ∧ w.grownBy w' (some P) ∧ In P w' v l k := by
  refine (peek_f h hok).mono ?_
  rintro e w' ⟨rfl, m, rfl⟩
  exact ⟨rfl, gd m, h.drewN m⟩
set_option maxHeartbeats 8000000 in
theorem decl_s {P : Nat} {v : PV} {l : Bs} {w : World} (h : In P w v l 0) (h5 : 5 ≤ l.length) : Calls Tryd.prog 38 #[pp P] w (Scan P w v l ret0 (declS l)) := by
  have c1 := h.rd
  have f1 := h.ps.rd.2.2
  have hm0 : Mv P w (w.setCell ⟨P, 1, none⟩ (.int .i64 5)) { v with k := 5 } := (Mv.refl h.ps).set_k 5
  have hi0 : In P (w.setCell ⟨P, 1, none⟩ (.int .i64 5)) { v with k := ((5 : Nat) : Int) } l 5 := h.mv hm0 h5
  have hg0 : w.grownBy (w.setCell ⟨P, 1, none⟩ (.int .i64 5)) (some P) := grownBy_set _ _ _ _
  have HH : Hid _ := And.intro hi0 hg0
  clear hi0 hg0 hm0
  rw [declS]
  rcases hx1 : blanksS l 5 with ⟨_, k1_⟩ | ⟨p, er⟩
  · rw [bind_ok]
    rcases hx2 : setS l [118, 101, 114, 115, 105, 111, 110] (verS l) k1_ with ⟨_, k2_⟩ | ⟨p, er⟩
    · rw [bind_ok]
      rcases hx3 : blanksS l k2_ with ⟨gap, k3_⟩ | ⟨p, er⟩
      · rw [bind_ok]
        cases gap
        · rw [show dec1S l false k3_ = .ok false k3_ from rfl, bind_ok]
          rw [show dec2S l false k3_ = .ok () k3_ from rfl, bind_ok]
          rcases hx4 : signS l 63 k3_ with ⟨_, k4_⟩ | ⟨p, er⟩
          · rw [bind_ok]
            rcases hx5 : signS l 62 k4_ with ⟨_, k5_⟩ | ⟨p, er⟩
            · skip
              go_enter Tryd.func38, Tryd.ntmps38
              go_wp2_with fail
              obtain ⟨hi0, hg0⟩ := HH.out; refine (scan_ok (blanks_s hi0) hx1).mono ?_; rintro e w1 ⟨rfl, hg1, hi1⟩
              go_wp2_with fail
              refine (scan_ok (setv_s hi1) hx2).mono ?_; rintro e w2 ⟨rfl, hg2, hi2⟩
              go_wp2_with fail
              refine (scan_ok (blanks_s hi2) hx3).mono ?_; rintro e w3 ⟨rfl, hg3, hi3⟩
              go_wp2_with fail
              refine (scan_ok (sign_s 63 hi3) hx4).mono ?_; rintro e w4 ⟨rfl, hg4, hi4⟩
              go_wp2_with fail
              refine (scan_ok (sign_s 62 hi4) hx5).mono ?_; rintro e w5 ⟨rfl, hg5, hi5⟩
              go_wp2_with fail
              go_end0
              exact ⟨rfl, grownBy_trans hg0 (grownBy_trans hg1 (grownBy_trans hg2 (grownBy_trans hg3 (grownBy_trans hg4 (hg5))))), hi5⟩
            · skip
              go_enter Tryd.func38, Tryd.ntmps38
              go_wp2_with fail
              obtain ⟨hi0, hg0⟩ := HH.out; refine (scan_ok (blanks_s hi0) hx1).mono ?_; rintro e w1 ⟨rfl, hg1, hi1⟩
              go_wp2_with fail
              refine (scan_ok (setv_s hi1) hx2).mono ?_; rintro e w2 ⟨rfl, hg2, hi2⟩
              go_wp2_with fail
              refine (scan_ok (blanks_s hi2) hx3).mono ?_; rintro e w3 ⟨rfl, hg3, hi3⟩
              go_wp2_with fail
              refine (scan_ok (sign_s 63 hi3) hx4).mono ?_; rintro e w4 ⟨rfl, hg4, hi4⟩
              go_wp2_with fail
              refine (scan_bad (sign_s 62 hi4) hx5).mono ?_; rintro e w5 ⟨rfl, hg5, kk, hp⟩
              go_wp2_with fail
              exact ⟨rfl, rfl, grownBy_trans hg0 (grownBy_trans hg1 (grownBy_trans hg2 (grownBy_trans hg3 (grownBy_trans hg4 (hg5))))), kk, hp⟩
          · rw [bind_bad]
            go_enter Tryd.func38, Tryd.ntmps38
            go_wp2_with fail
            obtain ⟨hi0, hg0⟩ := HH.out; refine (scan_ok (blanks_s hi0) hx1).mono ?_; rintro e w1 ⟨rfl, hg1, hi1⟩
            go_wp2_with fail
            refine (scan_ok (setv_s hi1) hx2).mono ?_; rintro e w2 ⟨rfl, hg2, hi2⟩
            go_wp2_with fail
            refine (scan_ok (blanks_s hi2) hx3).mono ?_; rintro e w3 ⟨rfl, hg3, hi3⟩
            go_wp2_with fail
            refine (scan_bad (sign_s 63 hi3) hx4).mono ?_; rintro e w4 ⟨rfl, hg4, kk, hp⟩
            go_wp2_with fail
            exact ⟨rfl, rfl, grownBy_trans hg0 (grownBy_trans hg1 (grownBy_trans hg2 (grownBy_trans hg3 (hg4)))), kk, hp⟩
        · cases ho6 : okl l k3_
          · rw [show dec1S l true k3_ = .bad k3_ 2 by rw [dec1S, if_pos rfl, peekS_f ho6]; rfl, bind_bad]
            go_enter Tryd.func38, Tryd.ntmps38
            go_wp2_with fail
            obtain ⟨hi0, hg0⟩ := HH.out; refine (scan_ok (blanks_s hi0) hx1).mono ?_; rintro e w1 ⟨rfl, hg1, hi1⟩
            go_wp2_with fail
            refine (scan_ok (setv_s hi1) hx2).mono ?_; rintro e w2 ⟨rfl, hg2, hi2⟩
            go_wp2_with fail
            refine (scan_ok (blanks_s hi2) hx3).mono ?_; rintro e w3 ⟨rfl, hg3, hi3⟩
            go_wp2_with fail
            refine (peek_gf hi3 ho6).mono ?_; rintro e w4 ⟨rfl, hg4, hi4⟩
            go_wp2_with fail
            exact ⟨rfl, rfl, grownBy_trans hg0 (grownBy_trans hg1 (grownBy_trans hg2 (grownBy_trans hg3 (hg4)))), _, hi4.ps⟩
          · by_cases hs6 : lt l k3_ = 101
            · rw [show dec1S l true k3_ = (setS l [101, 110, 99, 111, 100, 105, 110, 103] (encS l) k3_).bind fun _ k1 => blanksS l k1 by rw [dec1S, if_pos rfl, peekS_t ho6, bind_ok, if_pos hs6]]
              rcases hx7 : setS l [101, 110, 99, 111, 100, 105, 110, 103] (encS l) k3_ with ⟨_, k7_⟩ | ⟨p, er⟩
              · rw [bind_ok]
                rcases hx8 : blanksS l k7_ with ⟨gap2, k8_⟩ | ⟨p, er⟩
                · rw [bind_ok]
                  cases gap2
                  · skip
                    rw [show dec2S l false k8_ = .ok () k8_ from rfl, bind_ok]
                    rcases hx9 : signS l 63 k8_ with ⟨_, k9_⟩ | ⟨p, er⟩
                    · rw [bind_ok]
                      rcases hx10 : signS l 62 k9_ with ⟨_, k10_⟩ | ⟨p, er⟩
                      · skip
                        go_enter Tryd.func38, Tryd.ntmps38
                        go_wp2_with fail
                        obtain ⟨hi0, hg0⟩ := HH.out; refine (scan_ok (blanks_s hi0) hx1).mono ?_; rintro e w1 ⟨rfl, hg1, hi1⟩
                        go_wp2_with fail
                        refine (scan_ok (setv_s hi1) hx2).mono ?_; rintro e w2 ⟨rfl, hg2, hi2⟩
                        go_wp2_with fail
                        refine (scan_ok (blanks_s hi2) hx3).mono ?_; rintro e w3 ⟨rfl, hg3, hi3⟩
                        go_wp2_with fail
                        refine (peek_g hi3 ho6).mono ?_; rintro e w4 ⟨rfl, hg4, hi4⟩
                        go_wp2_with fail
                        refine (scan_ok (sete_s hi4) hx7).mono ?_; rintro e w5 ⟨rfl, hg5, hi5⟩
                        go_wp2_with fail
                        refine (scan_ok (blanks_s hi5) hx8).mono ?_; rintro e w6 ⟨rfl, hg6, hi6⟩
                        go_wp2_with fail
                        refine (scan_ok (sign_s 63 hi6) hx9).mono ?_; rintro e w7 ⟨rfl, hg7, hi7⟩
                        go_wp2_with fail
                        refine (scan_ok (sign_s 62 hi7) hx10).mono ?_; rintro e w8 ⟨rfl, hg8, hi8⟩
                        go_wp2_with fail
                        go_end0
                        exact ⟨rfl, grownBy_trans hg0 (grownBy_trans hg1 (grownBy_trans hg2 (grownBy_trans hg3 (grownBy_trans hg4 (grownBy_trans hg5 (grownBy_trans hg6 (grownBy_trans hg7 (hg8)))))))), hi8⟩
                      · skip
                        go_enter Tryd.func38, Tryd.ntmps38
                        go_wp2_with fail
                        obtain ⟨hi0, hg0⟩ := HH.out; refine (scan_ok (blanks_s hi0) hx1).mono ?_; rintro e w1 ⟨rfl, hg1, hi1⟩
                        go_wp2_with fail
                        refine (scan_ok (setv_s hi1) hx2).mono ?_; rintro e w2 ⟨rfl, hg2, hi2⟩
                        go_wp2_with fail
                        refine (scan_ok (blanks_s hi2) hx3).mono ?_; rintro e w3 ⟨rfl, hg3, hi3⟩
                        go_wp2_with fail
                        refine (peek_g hi3 ho6).mono ?_; rintro e w4 ⟨rfl, hg4, hi4⟩
                        go_wp2_with fail
                        refine (scan_ok (sete_s hi4) hx7).mono ?_; rintro e w5 ⟨rfl, hg5, hi5⟩
                        go_wp2_with fail
                        refine (scan_ok (blanks_s hi5) hx8).mono ?_; rintro e w6 ⟨rfl, hg6, hi6⟩
                        go_wp2_with fail
                        refine (scan_ok (sign_s 63 hi6) hx9).mono ?_; rintro e w7 ⟨rfl, hg7, hi7⟩
                        go_wp2_with fail
                        refine (scan_bad (sign_s 62 hi7) hx10).mono ?_; rintro e w8 ⟨rfl, hg8, kk, hp⟩
                        go_wp2_with fail
                        exact ⟨rfl, rfl, grownBy_trans hg0 (grownBy_trans hg1 (grownBy_trans hg2 (grownBy_trans hg3 (grownBy_trans hg4 (grownBy_trans hg5 (grownBy_trans hg6 (grownBy_trans hg7 (hg8)))))))), kk, hp⟩
                    · rw [bind_bad]
                      go_enter Tryd.func38, Tryd.ntmps38
                      go_wp2_with fail
                      obtain ⟨hi0, hg0⟩ := HH.out; refine (scan_ok (blanks_s hi0) hx1).mono ?_; rintro e w1 ⟨rfl, hg1, hi1⟩
                      go_wp2_with fail
                      refine (scan_ok (setv_s hi1) hx2).mono ?_; rintro e w2 ⟨rfl, hg2, hi2⟩
                      go_wp2_with fail
                      refine (scan_ok (blanks_s hi2) hx3).mono ?_; rintro e w3 ⟨rfl, hg3, hi3⟩
                      go_wp2_with fail
                      refine (peek_g hi3 ho6).mono ?_; rintro e w4 ⟨rfl, hg4, hi4⟩
                      go_wp2_with fail
                      refine (scan_ok (sete_s hi4) hx7).mono ?_; rintro e w5 ⟨rfl, hg5, hi5⟩
                      go_wp2_with fail
                      refine (scan_ok (blanks_s hi5) hx8).mono ?_; rintro e w6 ⟨rfl, hg6, hi6⟩
                      go_wp2_with fail
                      refine (scan_bad (sign_s 63 hi6) hx9).mono ?_; rintro e w7 ⟨rfl, hg7, kk, hp⟩
                      go_wp2_with fail
                      exact ⟨rfl, rfl, grownBy_trans hg0 (grownBy_trans hg1 (grownBy_trans hg2 (grownBy_trans hg3 (grownBy_trans hg4 (grownBy_trans hg5 (grownBy_trans hg6 (hg7))))))), kk, hp⟩
                  · skip
                    cases ho11 : okl l k8_
                    · rw [show dec2S l true k8_ = .bad k8_ 2 by rw [dec2S, if_pos rfl, peekS_f ho11]; rfl, bind_bad]
                      go_enter Tryd.func38, Tryd.ntmps38
                      go_wp2_with fail
                      obtain ⟨hi0, hg0⟩ := HH.out; refine (scan_ok (blanks_s hi0) hx1).mono ?_; rintro e w1 ⟨rfl, hg1, hi1⟩
                      go_wp2_with fail
                      refine (scan_ok (setv_s hi1) hx2).mono ?_; rintro e w2 ⟨rfl, hg2, hi2⟩
                      go_wp2_with fail
                      refine (scan_ok (blanks_s hi2) hx3).mono ?_; rintro e w3 ⟨rfl, hg3, hi3⟩
                      go_wp2_with fail
                      refine (peek_g hi3 ho6).mono ?_; rintro e w4 ⟨rfl, hg4, hi4⟩
                      go_wp2_with fail
                      refine (scan_ok (sete_s hi4) hx7).mono ?_; rintro e w5 ⟨rfl, hg5, hi5⟩
                      go_wp2_with fail
                      refine (scan_ok (blanks_s hi5) hx8).mono ?_; rintro e w6 ⟨rfl, hg6, hi6⟩
                      go_wp2_with fail
                      refine (peek_gf hi6 ho11).mono ?_; rintro e w7 ⟨rfl, hg7, hi7⟩
                      go_wp2_with fail
                      exact ⟨rfl, rfl, grownBy_trans hg0 (grownBy_trans hg1 (grownBy_trans hg2 (grownBy_trans hg3 (grownBy_trans hg4 (grownBy_trans hg5 (grownBy_trans hg6 (hg7))))))), _, hi7.ps⟩
                    · by_cases hs11 : lt l k8_ = 115
                      · rw [show dec2S l true k8_ = (setS l [115, 116, 97, 110, 100, 97, 108, 111, 110, 101] (staS l) k8_).bind fun _ k1 => (blanksS l k1).bind fun _ k2 => .ok () k2 by rw [dec2S, if_pos rfl, peekS_t ho11, bind_ok, if_pos hs11]]
                        rcases hx12 : setS l [115, 116, 97, 110, 100, 97, 108, 111, 110, 101] (staS l) k8_ with ⟨_, k12_⟩ | ⟨p, er⟩
                        · rw [bind_ok]
                          rcases hx13 : blanksS l k12_ with ⟨_, k13_⟩ | ⟨p, er⟩
                          · rw [bind_ok, bind_ok]
                            rcases hx14 : signS l 63 k13_ with ⟨_, k14_⟩ | ⟨p, er⟩
                            · rw [bind_ok]
                              rcases hx15 : signS l 62 k14_ with ⟨_, k15_⟩ | ⟨p, er⟩
                              · skip
                                go_enter Tryd.func38, Tryd.ntmps38
                                go_wp2_with fail
                                obtain ⟨hi0, hg0⟩ := HH.out; refine (scan_ok (blanks_s hi0) hx1).mono ?_; rintro e w1 ⟨rfl, hg1, hi1⟩
                                go_wp2_with fail
                                refine (scan_ok (setv_s hi1) hx2).mono ?_; rintro e w2 ⟨rfl, hg2, hi2⟩
                                go_wp2_with fail
                                refine (scan_ok (blanks_s hi2) hx3).mono ?_; rintro e w3 ⟨rfl, hg3, hi3⟩
                                go_wp2_with fail
                                refine (peek_g hi3 ho6).mono ?_; rintro e w4 ⟨rfl, hg4, hi4⟩
                                go_wp2_with fail
                                refine (scan_ok (sete_s hi4) hx7).mono ?_; rintro e w5 ⟨rfl, hg5, hi5⟩
                                go_wp2_with fail
                                refine (scan_ok (blanks_s hi5) hx8).mono ?_; rintro e w6 ⟨rfl, hg6, hi6⟩
                                go_wp2_with fail
                                refine (peek_g hi6 ho11).mono ?_; rintro e w7 ⟨rfl, hg7, hi7⟩
                                go_wp2_with fail
                                refine (scan_ok (sets_s hi7) hx12).mono ?_; rintro e w8 ⟨rfl, hg8, hi8⟩
                                go_wp2_with fail
                                refine (scan_ok (blanks_s hi8) hx13).mono ?_; rintro e w9 ⟨rfl, hg9, hi9⟩
                                go_wp2_with fail
                                refine (scan_ok (sign_s 63 hi9) hx14).mono ?_; rintro e w10 ⟨rfl, hg10, hi10⟩
                                go_wp2_with fail
                                refine (scan_ok (sign_s 62 hi10) hx15).mono ?_; rintro e w11 ⟨rfl, hg11, hi11⟩
                                go_wp2_with fail
                                go_end0
                                exact ⟨rfl, grownBy_trans hg0 (grownBy_trans hg1 (grownBy_trans hg2 (grownBy_trans hg3 (grownBy_trans hg4 (grownBy_trans hg5 (grownBy_trans hg6 (grownBy_trans hg7 (grownBy_trans hg8 (grownBy_trans hg9 (grownBy_trans hg10 (hg11))))))))))), hi11⟩
                              · skip
                                go_enter Tryd.func38, Tryd.ntmps38
                                go_wp2_with fail
                                obtain ⟨hi0, hg0⟩ := HH.out; refine (scan_ok (blanks_s hi0) hx1).mono ?_; rintro e w1 ⟨rfl, hg1, hi1⟩
                                go_wp2_with fail
                                refine (scan_ok (setv_s hi1) hx2).mono ?_; rintro e w2 ⟨rfl, hg2, hi2⟩
                                go_wp2_with fail
                                refine (scan_ok (blanks_s hi2) hx3).mono ?_; rintro e w3 ⟨rfl, hg3, hi3⟩
                                go_wp2_with fail
                                refine (peek_g hi3 ho6).mono ?_; rintro e w4 ⟨rfl, hg4, hi4⟩
                                go_wp2_with fail
                                refine (scan_ok (sete_s hi4) hx7).mono ?_; rintro e w5 ⟨rfl, hg5, hi5⟩
                                go_wp2_with fail
                                refine (scan_ok (blanks_s hi5) hx8).mono ?_; rintro e w6 ⟨rfl, hg6, hi6⟩
                                go_wp2_with fail
                                refine (peek_g hi6 ho11).mono ?_; rintro e w7 ⟨rfl, hg7, hi7⟩
                                go_wp2_with fail
                                refine (scan_ok (sets_s hi7) hx12).mono ?_; rintro e w8 ⟨rfl, hg8, hi8⟩
                                go_wp2_with fail
                                refine (scan_ok (blanks_s hi8) hx13).mono ?_; rintro e w9 ⟨rfl, hg9, hi9⟩
                                go_wp2_with fail
                                refine (scan_ok (sign_s 63 hi9) hx14).mono ?_; rintro e w10 ⟨rfl, hg10, hi10⟩
                                go_wp2_with fail
                                refine (scan_bad (sign_s 62 hi10) hx15).mono ?_; rintro e w11 ⟨rfl, hg11, kk, hp⟩
                                go_wp2_with fail
                                exact ⟨rfl, rfl, grownBy_trans hg0 (grownBy_trans hg1 (grownBy_trans hg2 (grownBy_trans hg3 (grownBy_trans hg4 (grownBy_trans hg5 (grownBy_trans hg6 (grownBy_trans hg7 (grownBy_trans hg8 (grownBy_trans hg9 (grownBy_trans hg10 (hg11))))))))))), kk, hp⟩
                            · rw [bind_bad]
                              go_enter Tryd.func38, Tryd.ntmps38
                              go_wp2_with fail
                              obtain ⟨hi0, hg0⟩ := HH.out; refine (scan_ok (blanks_s hi0) hx1).mono ?_; rintro e w1 ⟨rfl, hg1, hi1⟩
                              go_wp2_with fail
                              refine (scan_ok (setv_s hi1) hx2).mono ?_; rintro e w2 ⟨rfl, hg2, hi2⟩
                              go_wp2_with fail
                              refine (scan_ok (blanks_s hi2) hx3).mono ?_; rintro e w3 ⟨rfl, hg3, hi3⟩
                              go_wp2_with fail
                              refine (peek_g hi3 ho6).mono ?_; rintro e w4 ⟨rfl, hg4, hi4⟩
                              go_wp2_with fail
                              refine (scan_ok (sete_s hi4) hx7).mono ?_; rintro e w5 ⟨rfl, hg5, hi5⟩
                              go_wp2_with fail
                              refine (scan_ok (blanks_s hi5) hx8).mono ?_; rintro e w6 ⟨rfl, hg6, hi6⟩
                              go_wp2_with fail
                              refine (peek_g hi6 ho11).mono ?_; rintro e w7 ⟨rfl, hg7, hi7⟩
                              go_wp2_with fail
                              refine (scan_ok (sets_s hi7) hx12).mono ?_; rintro e w8 ⟨rfl, hg8, hi8⟩
                              go_wp2_with fail
                              refine (scan_ok (blanks_s hi8) hx13).mono ?_; rintro e w9 ⟨rfl, hg9, hi9⟩
                              go_wp2_with fail
                              refine (scan_bad (sign_s 63 hi9) hx14).mono ?_; rintro e w10 ⟨rfl, hg10, kk, hp⟩
                              go_wp2_with fail
                              exact ⟨rfl, rfl, grownBy_trans hg0 (grownBy_trans hg1 (grownBy_trans hg2 (grownBy_trans hg3 (grownBy_trans hg4 (grownBy_trans hg5 (grownBy_trans hg6 (grownBy_trans hg7 (grownBy_trans hg8 (grownBy_trans hg9 (hg10)))))))))), kk, hp⟩
                          · rw [bind_bad, bind_bad]
                            go_enter Tryd.func38, Tryd.ntmps38
                            go_wp2_with fail
                            obtain ⟨hi0, hg0⟩ := HH.out; refine (scan_ok (blanks_s hi0) hx1).mono ?_; rintro e w1 ⟨rfl, hg1, hi1⟩
                            go_wp2_with fail
                            refine (scan_ok (setv_s hi1) hx2).mono ?_; rintro e w2 ⟨rfl, hg2, hi2⟩
                            go_wp2_with fail
                            refine (scan_ok (blanks_s hi2) hx3).mono ?_; rintro e w3 ⟨rfl, hg3, hi3⟩
                            go_wp2_with fail
                            refine (peek_g hi3 ho6).mono ?_; rintro e w4 ⟨rfl, hg4, hi4⟩
                            go_wp2_with fail
                            refine (scan_ok (sete_s hi4) hx7).mono ?_; rintro e w5 ⟨rfl, hg5, hi5⟩
                            go_wp2_with fail
                            refine (scan_ok (blanks_s hi5) hx8).mono ?_; rintro e w6 ⟨rfl, hg6, hi6⟩
                            go_wp2_with fail
                            refine (peek_g hi6 ho11).mono ?_; rintro e w7 ⟨rfl, hg7, hi7⟩
                            go_wp2_with fail
                            refine (scan_ok (sets_s hi7) hx12).mono ?_; rintro e w8 ⟨rfl, hg8, hi8⟩
                            go_wp2_with fail
                            refine (scan_bad (blanks_s hi8) hx13).mono ?_; rintro e w9 ⟨rfl, hg9, kk, hp⟩
                            go_wp2_with fail
                            exact ⟨rfl, rfl, grownBy_trans hg0 (grownBy_trans hg1 (grownBy_trans hg2 (grownBy_trans hg3 (grownBy_trans hg4 (grownBy_trans hg5 (grownBy_trans hg6 (grownBy_trans hg7 (grownBy_trans hg8 (hg9))))))))), kk, hp⟩
                        · rw [bind_bad, bind_bad]
                          go_enter Tryd.func38, Tryd.ntmps38
                          go_wp2_with fail
                          obtain ⟨hi0, hg0⟩ := HH.out; refine (scan_ok (blanks_s hi0) hx1).mono ?_; rintro e w1 ⟨rfl, hg1, hi1⟩
                          go_wp2_with fail
                          refine (scan_ok (setv_s hi1) hx2).mono ?_; rintro e w2 ⟨rfl, hg2, hi2⟩
                          go_wp2_with fail
                          refine (scan_ok (blanks_s hi2) hx3).mono ?_; rintro e w3 ⟨rfl, hg3, hi3⟩
                          go_wp2_with fail
                          refine (peek_g hi3 ho6).mono ?_; rintro e w4 ⟨rfl, hg4, hi4⟩
                          go_wp2_with fail
                          refine (scan_ok (sete_s hi4) hx7).mono ?_; rintro e w5 ⟨rfl, hg5, hi5⟩
                          go_wp2_with fail
                          refine (scan_ok (blanks_s hi5) hx8).mono ?_; rintro e w6 ⟨rfl, hg6, hi6⟩
                          go_wp2_with fail
                          refine (peek_g hi6 ho11).mono ?_; rintro e w7 ⟨rfl, hg7, hi7⟩
                          go_wp2_with fail
                          refine (scan_bad (sets_s hi7) hx12).mono ?_; rintro e w8 ⟨rfl, hg8, kk, hp⟩
                          go_wp2_with fail
                          exact ⟨rfl, rfl, grownBy_trans hg0 (grownBy_trans hg1 (grownBy_trans hg2 (grownBy_trans hg3 (grownBy_trans hg4 (grownBy_trans hg5 (grownBy_trans hg6 (grownBy_trans hg7 (hg8)))))))), kk, hp⟩
                      · rw [show dec2S l true k8_ = .ok () k8_ by rw [dec2S, if_pos rfl, peekS_t ho11, bind_ok, if_neg hs11], bind_ok]
                        have hsb11 : (lt l k8_ == 115) = false := by simp [hs11]
                        clear hs11
                        rcases hx16 : signS l 63 k8_ with ⟨_, k16_⟩ | ⟨p, er⟩
                        · rw [bind_ok]
                          rcases hx17 : signS l 62 k16_ with ⟨_, k17_⟩ | ⟨p, er⟩
                          · skip
                            go_enter Tryd.func38, Tryd.ntmps38
                            go_wp2_with fail
                            obtain ⟨hi0, hg0⟩ := HH.out; refine (scan_ok (blanks_s hi0) hx1).mono ?_; rintro e w1 ⟨rfl, hg1, hi1⟩
                            go_wp2_with fail
                            refine (scan_ok (setv_s hi1) hx2).mono ?_; rintro e w2 ⟨rfl, hg2, hi2⟩
                            go_wp2_with fail
                            refine (scan_ok (blanks_s hi2) hx3).mono ?_; rintro e w3 ⟨rfl, hg3, hi3⟩
                            go_wp2_with fail
                            refine (peek_g hi3 ho6).mono ?_; rintro e w4 ⟨rfl, hg4, hi4⟩
                            go_wp2_with fail
                            refine (scan_ok (sete_s hi4) hx7).mono ?_; rintro e w5 ⟨rfl, hg5, hi5⟩
                            go_wp2_with fail
                            refine (scan_ok (blanks_s hi5) hx8).mono ?_; rintro e w6 ⟨rfl, hg6, hi6⟩
                            go_wp2_with fail
                            refine (peek_g hi6 ho11).mono ?_; rintro e w7 ⟨rfl, hg7, hi7⟩
                            go_wp2_with fail
                            refine (scan_ok (sign_s 63 hi7) hx16).mono ?_; rintro e w8 ⟨rfl, hg8, hi8⟩
                            go_wp2_with fail
                            refine (scan_ok (sign_s 62 hi8) hx17).mono ?_; rintro e w9 ⟨rfl, hg9, hi9⟩
                            go_wp2_with fail
                            go_end0
                            exact ⟨rfl, grownBy_trans hg0 (grownBy_trans hg1 (grownBy_trans hg2 (grownBy_trans hg3 (grownBy_trans hg4 (grownBy_trans hg5 (grownBy_trans hg6 (grownBy_trans hg7 (grownBy_trans hg8 (hg9))))))))), hi9⟩
                          · skip
                            go_enter Tryd.func38, Tryd.ntmps38
                            go_wp2_with fail
                            obtain ⟨hi0, hg0⟩ := HH.out; refine (scan_ok (blanks_s hi0) hx1).mono ?_; rintro e w1 ⟨rfl, hg1, hi1⟩
                            go_wp2_with fail
                            refine (scan_ok (setv_s hi1) hx2).mono ?_; rintro e w2 ⟨rfl, hg2, hi2⟩
                            go_wp2_with fail
                            refine (scan_ok (blanks_s hi2) hx3).mono ?_; rintro e w3 ⟨rfl, hg3, hi3⟩
                            go_wp2_with fail
                            refine (peek_g hi3 ho6).mono ?_; rintro e w4 ⟨rfl, hg4, hi4⟩
                            go_wp2_with fail
                            refine (scan_ok (sete_s hi4) hx7).mono ?_; rintro e w5 ⟨rfl, hg5, hi5⟩
                            go_wp2_with fail
                            refine (scan_ok (blanks_s hi5) hx8).mono ?_; rintro e w6 ⟨rfl, hg6, hi6⟩
                            go_wp2_with fail
                            refine (peek_g hi6 ho11).mono ?_; rintro e w7 ⟨rfl, hg7, hi7⟩
                            go_wp2_with fail
                            refine (scan_ok (sign_s 63 hi7) hx16).mono ?_; rintro e w8 ⟨rfl, hg8, hi8⟩
                            go_wp2_with fail
                            refine (scan_bad (sign_s 62 hi8) hx17).mono ?_; rintro e w9 ⟨rfl, hg9, kk, hp⟩
                            go_wp2_with fail
                            exact ⟨rfl, rfl, grownBy_trans hg0 (grownBy_trans hg1 (grownBy_trans hg2 (grownBy_trans hg3 (grownBy_trans hg4 (grownBy_trans hg5 (grownBy_trans hg6 (grownBy_trans hg7 (grownBy_trans hg8 (hg9))))))))), kk, hp⟩
                        · rw [bind_bad]
                          go_enter Tryd.func38, Tryd.ntmps38
                          go_wp2_with fail
                          obtain ⟨hi0, hg0⟩ := HH.out; refine (scan_ok (blanks_s hi0) hx1).mono ?_; rintro e w1 ⟨rfl, hg1, hi1⟩
                          go_wp2_with fail
                          refine (scan_ok (setv_s hi1) hx2).mono ?_; rintro e w2 ⟨rfl, hg2, hi2⟩
                          go_wp2_with fail
                          refine (scan_ok (blanks_s hi2) hx3).mono ?_; rintro e w3 ⟨rfl, hg3, hi3⟩
                          go_wp2_with fail
                          refine (peek_g hi3 ho6).mono ?_; rintro e w4 ⟨rfl, hg4, hi4⟩
                          go_wp2_with fail
                          refine (scan_ok (sete_s hi4) hx7).mono ?_; rintro e w5 ⟨rfl, hg5, hi5⟩
                          go_wp2_with fail
                          refine (scan_ok (blanks_s hi5) hx8).mono ?_; rintro e w6 ⟨rfl, hg6, hi6⟩
                          go_wp2_with fail
                          refine (peek_g hi6 ho11).mono ?_; rintro e w7 ⟨rfl, hg7, hi7⟩
                          go_wp2_with fail
                          refine (scan_bad (sign_s 63 hi7) hx16).mono ?_; rintro e w8 ⟨rfl, hg8, kk, hp⟩
                          go_wp2_with fail
                          exact ⟨rfl, rfl, grownBy_trans hg0 (grownBy_trans hg1 (grownBy_trans hg2 (grownBy_trans hg3 (grownBy_trans hg4 (grownBy_trans hg5 (grownBy_trans hg6 (grownBy_trans hg7 (hg8)))))))), kk, hp⟩
                · rw [bind_bad]
                  go_enter Tryd.func38, Tryd.ntmps38
                  go_wp2_with fail
                  obtain ⟨hi0, hg0⟩ := HH.out; refine (scan_ok (blanks_s hi0) hx1).mono ?_; rintro e w1 ⟨rfl, hg1, hi1⟩
                  go_wp2_with fail
                  refine (scan_ok (setv_s hi1) hx2).mono ?_; rintro e w2 ⟨rfl, hg2, hi2⟩
                  go_wp2_with fail
                  refine (scan_ok (blanks_s hi2) hx3).mono ?_; rintro e w3 ⟨rfl, hg3, hi3⟩
                  go_wp2_with fail
                  refine (peek_g hi3 ho6).mono ?_; rintro e w4 ⟨rfl, hg4, hi4⟩
                  go_wp2_with fail
                  refine (scan_ok (sete_s hi4) hx7).mono ?_; rintro e w5 ⟨rfl, hg5, hi5⟩
                  go_wp2_with fail
                  refine (scan_bad (blanks_s hi5) hx8).mono ?_; rintro e w6 ⟨rfl, hg6, kk, hp⟩
                  go_wp2_with fail
                  exact ⟨rfl, rfl, grownBy_trans hg0 (grownBy_trans hg1 (grownBy_trans hg2 (grownBy_trans hg3 (grownBy_trans hg4 (grownBy_trans hg5 (hg6)))))), kk, hp⟩
              · rw [bind_bad, bind_bad]
                go_enter Tryd.func38, Tryd.ntmps38
                go_wp2_with fail
                obtain ⟨hi0, hg0⟩ := HH.out; refine (scan_ok (blanks_s hi0) hx1).mono ?_; rintro e w1 ⟨rfl, hg1, hi1⟩
                go_wp2_with fail
                refine (scan_ok (setv_s hi1) hx2).mono ?_; rintro e w2 ⟨rfl, hg2, hi2⟩
                go_wp2_with fail
                refine (scan_ok (blanks_s hi2) hx3).mono ?_; rintro e w3 ⟨rfl, hg3, hi3⟩
                go_wp2_with fail
                refine (peek_g hi3 ho6).mono ?_; rintro e w4 ⟨rfl, hg4, hi4⟩
                go_wp2_with fail
                refine (scan_bad (sete_s hi4) hx7).mono ?_; rintro e w5 ⟨rfl, hg5, kk, hp⟩
                go_wp2_with fail
                exact ⟨rfl, rfl, grownBy_trans hg0 (grownBy_trans hg1 (grownBy_trans hg2 (grownBy_trans hg3 (grownBy_trans hg4 (hg5))))), kk, hp⟩
            · rw [show dec1S l true k3_ = .ok true k3_ by rw [dec1S, if_pos rfl, peekS_t ho6, bind_ok, if_neg hs6], bind_ok]
              have hsb6 : (lt l k3_ == 101) = false := by simp [hs6]
              clear hs6
              cases ho18 : okl l k3_
              · rw [show dec2S l true k3_ = .bad k3_ 2 by rw [dec2S, if_pos rfl, peekS_f ho18]; rfl, bind_bad]
                go_enter Tryd.func38, Tryd.ntmps38
                go_wp2_with fail
                obtain ⟨hi0, hg0⟩ := HH.out; refine (scan_ok (blanks_s hi0) hx1).mono ?_; rintro e w1 ⟨rfl, hg1, hi1⟩
                go_wp2_with fail
                refine (scan_ok (setv_s hi1) hx2).mono ?_; rintro e w2 ⟨rfl, hg2, hi2⟩
                go_wp2_with fail
                refine (scan_ok (blanks_s hi2) hx3).mono ?_; rintro e w3 ⟨rfl, hg3, hi3⟩
                go_wp2_with fail
                refine (peek_g hi3 ho6).mono ?_; rintro e w4 ⟨rfl, hg4, hi4⟩
                go_wp2_with fail
                refine (peek_gf hi4 ho18).mono ?_; rintro e w5 ⟨rfl, hg5, hi5⟩
                go_wp2_with fail
                exact ⟨rfl, rfl, grownBy_trans hg0 (grownBy_trans hg1 (grownBy_trans hg2 (grownBy_trans hg3 (grownBy_trans hg4 (hg5))))), _, hi5.ps⟩
              · by_cases hs18 : lt l k3_ = 115
                · rw [show dec2S l true k3_ = (setS l [115, 116, 97, 110, 100, 97, 108, 111, 110, 101] (staS l) k3_).bind fun _ k1 => (blanksS l k1).bind fun _ k2 => .ok () k2 by rw [dec2S, if_pos rfl, peekS_t ho18, bind_ok, if_pos hs18]]
                  rcases hx19 : setS l [115, 116, 97, 110, 100, 97, 108, 111, 110, 101] (staS l) k3_ with ⟨_, k19_⟩ | ⟨p, er⟩
                  · rw [bind_ok]
                    rcases hx20 : blanksS l k19_ with ⟨_, k20_⟩ | ⟨p, er⟩
                    · rw [bind_ok, bind_ok]
                      rcases hx21 : signS l 63 k20_ with ⟨_, k21_⟩ | ⟨p, er⟩
                      · rw [bind_ok]
                        rcases hx22 : signS l 62 k21_ with ⟨_, k22_⟩ | ⟨p, er⟩
                        · skip
                          go_enter Tryd.func38, Tryd.ntmps38
                          go_wp2_with fail
                          obtain ⟨hi0, hg0⟩ := HH.out; refine (scan_ok (blanks_s hi0) hx1).mono ?_; rintro e w1 ⟨rfl, hg1, hi1⟩
                          go_wp2_with fail
                          refine (scan_ok (setv_s hi1) hx2).mono ?_; rintro e w2 ⟨rfl, hg2, hi2⟩
                          go_wp2_with fail
                          refine (scan_ok (blanks_s hi2) hx3).mono ?_; rintro e w3 ⟨rfl, hg3, hi3⟩
                          go_wp2_with fail
                          refine (peek_g hi3 ho6).mono ?_; rintro e w4 ⟨rfl, hg4, hi4⟩
                          go_wp2_with fail
                          refine (peek_g hi4 ho18).mono ?_; rintro e w5 ⟨rfl, hg5, hi5⟩
                          go_wp2_with fail
                          refine (scan_ok (sets_s hi5) hx19).mono ?_; rintro e w6 ⟨rfl, hg6, hi6⟩
                          go_wp2_with fail
                          refine (scan_ok (blanks_s hi6) hx20).mono ?_; rintro e w7 ⟨rfl, hg7, hi7⟩
                          go_wp2_with fail
                          refine (scan_ok (sign_s 63 hi7) hx21).mono ?_; rintro e w8 ⟨rfl, hg8, hi8⟩
                          go_wp2_with fail
                          refine (scan_ok (sign_s 62 hi8) hx22).mono ?_; rintro e w9 ⟨rfl, hg9, hi9⟩
                          go_wp2_with fail
                          go_end0
                          exact ⟨rfl, grownBy_trans hg0 (grownBy_trans hg1 (grownBy_trans hg2 (grownBy_trans hg3 (grownBy_trans hg4 (grownBy_trans hg5 (grownBy_trans hg6 (grownBy_trans hg7 (grownBy_trans hg8 (hg9))))))))), hi9⟩
                        · skip
                          go_enter Tryd.func38, Tryd.ntmps38
                          go_wp2_with fail
                          obtain ⟨hi0, hg0⟩ := HH.out; refine (scan_ok (blanks_s hi0) hx1).mono ?_; rintro e w1 ⟨rfl, hg1, hi1⟩
                          go_wp2_with fail
                          refine (scan_ok (setv_s hi1) hx2).mono ?_; rintro e w2 ⟨rfl, hg2, hi2⟩
                          go_wp2_with fail
                          refine (scan_ok (blanks_s hi2) hx3).mono ?_; rintro e w3 ⟨rfl, hg3, hi3⟩
                          go_wp2_with fail
                          refine (peek_g hi3 ho6).mono ?_; rintro e w4 ⟨rfl, hg4, hi4⟩
                          go_wp2_with fail
                          refine (peek_g hi4 ho18).mono ?_; rintro e w5 ⟨rfl, hg5, hi5⟩
                          go_wp2_with fail
                          refine (scan_ok (sets_s hi5) hx19).mono ?_; rintro e w6 ⟨rfl, hg6, hi6⟩
                          go_wp2_with fail
                          refine (scan_ok (blanks_s hi6) hx20).mono ?_; rintro e w7 ⟨rfl, hg7, hi7⟩
                          go_wp2_with fail
                          refine (scan_ok (sign_s 63 hi7) hx21).mono ?_; rintro e w8 ⟨rfl, hg8, hi8⟩
                          go_wp2_with fail
                          refine (scan_bad (sign_s 62 hi8) hx22).mono ?_; rintro e w9 ⟨rfl, hg9, kk, hp⟩
                          go_wp2_with fail
                          exact ⟨rfl, rfl, grownBy_trans hg0 (grownBy_trans hg1 (grownBy_trans hg2 (grownBy_trans hg3 (grownBy_trans hg4 (grownBy_trans hg5 (grownBy_trans hg6 (grownBy_trans hg7 (grownBy_trans hg8 (hg9))))))))), kk, hp⟩
                      · rw [bind_bad]
                        go_enter Tryd.func38, Tryd.ntmps38
                        go_wp2_with fail
                        obtain ⟨hi0, hg0⟩ := HH.out; refine (scan_ok (blanks_s hi0) hx1).mono ?_; rintro e w1 ⟨rfl, hg1, hi1⟩
                        go_wp2_with fail
                        refine (scan_ok (setv_s hi1) hx2).mono ?_; rintro e w2 ⟨rfl, hg2, hi2⟩
                        go_wp2_with fail
                        refine (scan_ok (blanks_s hi2) hx3).mono ?_; rintro e w3 ⟨rfl, hg3, hi3⟩
                        go_wp2_with fail
                        refine (peek_g hi3 ho6).mono ?_; rintro e w4 ⟨rfl, hg4, hi4⟩
                        go_wp2_with fail
                        refine (peek_g hi4 ho18).mono ?_; rintro e w5 ⟨rfl, hg5, hi5⟩
                        go_wp2_with fail
                        refine (scan_ok (sets_s hi5) hx19).mono ?_; rintro e w6 ⟨rfl, hg6, hi6⟩
                        go_wp2_with fail
                        refine (scan_ok (blanks_s hi6) hx20).mono ?_; rintro e w7 ⟨rfl, hg7, hi7⟩
                        go_wp2_with fail
                        refine (scan_bad (sign_s 63 hi7) hx21).mono ?_; rintro e w8 ⟨rfl, hg8, kk, hp⟩
                        go_wp2_with fail
                        exact ⟨rfl, rfl, grownBy_trans hg0 (grownBy_trans hg1 (grownBy_trans hg2 (grownBy_trans hg3 (grownBy_trans hg4 (grownBy_trans hg5 (grownBy_trans hg6 (grownBy_trans hg7 (hg8)))))))), kk, hp⟩
                    · rw [bind_bad, bind_bad]
                      go_enter Tryd.func38, Tryd.ntmps38
                      go_wp2_with fail
                      obtain ⟨hi0, hg0⟩ := HH.out; refine (scan_ok (blanks_s hi0) hx1).mono ?_; rintro e w1 ⟨rfl, hg1, hi1⟩
                      go_wp2_with fail
                      refine (scan_ok (setv_s hi1) hx2).mono ?_; rintro e w2 ⟨rfl, hg2, hi2⟩
                      go_wp2_with fail
                      refine (scan_ok (blanks_s hi2) hx3).mono ?_; rintro e w3 ⟨rfl, hg3, hi3⟩
                      go_wp2_with fail
                      refine (peek_g hi3 ho6).mono ?_; rintro e w4 ⟨rfl, hg4, hi4⟩
                      go_wp2_with fail
                      refine (peek_g hi4 ho18).mono ?_; rintro e w5 ⟨rfl, hg5, hi5⟩
                      go_wp2_with fail
                      refine (scan_ok (sets_s hi5) hx19).mono ?_; rintro e w6 ⟨rfl, hg6, hi6⟩
                      go_wp2_with fail
                      refine (scan_bad (blanks_s hi6) hx20).mono ?_; rintro e w7 ⟨rfl, hg7, kk, hp⟩
                      go_wp2_with fail
                      exact ⟨rfl, rfl, grownBy_trans hg0 (grownBy_trans hg1 (grownBy_trans hg2 (grownBy_trans hg3 (grownBy_trans hg4 (grownBy_trans hg5 (grownBy_trans hg6 (hg7))))))), kk, hp⟩
                  · rw [bind_bad, bind_bad]
                    go_enter Tryd.func38, Tryd.ntmps38
                    go_wp2_with fail
                    obtain ⟨hi0, hg0⟩ := HH.out; refine (scan_ok (blanks_s hi0) hx1).mono ?_; rintro e w1 ⟨rfl, hg1, hi1⟩
                    go_wp2_with fail
                    refine (scan_ok (setv_s hi1) hx2).mono ?_; rintro e w2 ⟨rfl, hg2, hi2⟩
                    go_wp2_with fail
                    refine (scan_ok (blanks_s hi2) hx3).mono ?_; rintro e w3 ⟨rfl, hg3, hi3⟩
                    go_wp2_with fail
                    refine (peek_g hi3 ho6).mono ?_; rintro e w4 ⟨rfl, hg4, hi4⟩
                    go_wp2_with fail
                    refine (peek_g hi4 ho18).mono ?_; rintro e w5 ⟨rfl, hg5, hi5⟩
                    go_wp2_with fail
                    refine (scan_bad (sets_s hi5) hx19).mono ?_; rintro e w6 ⟨rfl, hg6, kk, hp⟩
                    go_wp2_with fail
                    exact ⟨rfl, rfl, grownBy_trans hg0 (grownBy_trans hg1 (grownBy_trans hg2 (grownBy_trans hg3 (grownBy_trans hg4 (grownBy_trans hg5 (hg6)))))), kk, hp⟩
                · rw [show dec2S l true k3_ = .ok () k3_ by rw [dec2S, if_pos rfl, peekS_t ho18, bind_ok, if_neg hs18], bind_ok]
                  have hsb18 : (lt l k3_ == 115) = false := by simp [hs18]
                  clear hs18
                  rcases hx23 : signS l 63 k3_ with ⟨_, k23_⟩ | ⟨p, er⟩
                  · rw [bind_ok]
                    rcases hx24 : signS l 62 k23_ with ⟨_, k24_⟩ | ⟨p, er⟩
                    · skip
                      go_enter Tryd.func38, Tryd.ntmps38
                      go_wp2_with fail
                      obtain ⟨hi0, hg0⟩ := HH.out; refine (scan_ok (blanks_s hi0) hx1).mono ?_; rintro e w1 ⟨rfl, hg1, hi1⟩
                      go_wp2_with fail
                      refine (scan_ok (setv_s hi1) hx2).mono ?_; rintro e w2 ⟨rfl, hg2, hi2⟩
                      go_wp2_with fail
                      refine (scan_ok (blanks_s hi2) hx3).mono ?_; rintro e w3 ⟨rfl, hg3, hi3⟩
                      go_wp2_with fail
                      refine (peek_g hi3 ho6).mono ?_; rintro e w4 ⟨rfl, hg4, hi4⟩
                      go_wp2_with fail
                      refine (peek_g hi4 ho18).mono ?_; rintro e w5 ⟨rfl, hg5, hi5⟩
                      go_wp2_with fail
                      refine (scan_ok (sign_s 63 hi5) hx23).mono ?_; rintro e w6 ⟨rfl, hg6, hi6⟩
                      go_wp2_with fail
                      refine (scan_ok (sign_s 62 hi6) hx24).mono ?_; rintro e w7 ⟨rfl, hg7, hi7⟩
                      go_wp2_with fail
                      go_end0
                      exact ⟨rfl, grownBy_trans hg0 (grownBy_trans hg1 (grownBy_trans hg2 (grownBy_trans hg3 (grownBy_trans hg4 (grownBy_trans hg5 (grownBy_trans hg6 (hg7))))))), hi7⟩
                    · skip
                      go_enter Tryd.func38, Tryd.ntmps38
                      go_wp2_with fail
                      obtain ⟨hi0, hg0⟩ := HH.out; refine (scan_ok (blanks_s hi0) hx1).mono ?_; rintro e w1 ⟨rfl, hg1, hi1⟩
                      go_wp2_with fail
                      refine (scan_ok (setv_s hi1) hx2).mono ?_; rintro e w2 ⟨rfl, hg2, hi2⟩
                      go_wp2_with fail
                      refine (scan_ok (blanks_s hi2) hx3).mono ?_; rintro e w3 ⟨rfl, hg3, hi3⟩
                      go_wp2_with fail
                      refine (peek_g hi3 ho6).mono ?_; rintro e w4 ⟨rfl, hg4, hi4⟩
                      go_wp2_with fail
                      refine (peek_g hi4 ho18).mono ?_; rintro e w5 ⟨rfl, hg5, hi5⟩
                      go_wp2_with fail
                      refine (scan_ok (sign_s 63 hi5) hx23).mono ?_; rintro e w6 ⟨rfl, hg6, hi6⟩
                      go_wp2_with fail
                      refine (scan_bad (sign_s 62 hi6) hx24).mono ?_; rintro e w7 ⟨rfl, hg7, kk, hp⟩
                      go_wp2_with fail
                      exact ⟨rfl, rfl, grownBy_trans hg0 (grownBy_trans hg1 (grownBy_trans hg2 (grownBy_trans hg3 (grownBy_trans hg4 (grownBy_trans hg5 (grownBy_trans hg6 (hg7))))))), kk, hp⟩
                  · rw [bind_bad]
                    go_enter Tryd.func38, Tryd.ntmps38
                    go_wp2_with fail
                    obtain ⟨hi0, hg0⟩ := HH.out; refine (scan_ok (blanks_s hi0) hx1).mono ?_; rintro e w1 ⟨rfl, hg1, hi1⟩
                    go_wp2_with fail
                    refine (scan_ok (setv_s hi1) hx2).mono ?_; rintro e w2 ⟨rfl, hg2, hi2⟩
                    go_wp2_with fail
                    refine (scan_ok (blanks_s hi2) hx3).mono ?_; rintro e w3 ⟨rfl, hg3, hi3⟩
                    go_wp2_with fail
                    refine (peek_g hi3 ho6).mono ?_; rintro e w4 ⟨rfl, hg4, hi4⟩
                    go_wp2_with fail
                    refine (peek_g hi4 ho18).mono ?_; rintro e w5 ⟨rfl, hg5, hi5⟩
                    go_wp2_with fail
                    refine (scan_bad (sign_s 63 hi5) hx23).mono ?_; rintro e w6 ⟨rfl, hg6, kk, hp⟩
                    go_wp2_with fail
                    exact ⟨rfl, rfl, grownBy_trans hg0 (grownBy_trans hg1 (grownBy_trans hg2 (grownBy_trans hg3 (grownBy_trans hg4 (grownBy_trans hg5 (hg6)))))), kk, hp⟩
      · rw [bind_bad]
        go_enter Tryd.func38, Tryd.ntmps38
        go_wp2_with fail
        obtain ⟨hi0, hg0⟩ := HH.out; refine (scan_ok (blanks_s hi0) hx1).mono ?_; rintro e w1 ⟨rfl, hg1, hi1⟩
        go_wp2_with fail
        refine (scan_ok (setv_s hi1) hx2).mono ?_; rintro e w2 ⟨rfl, hg2, hi2⟩
        go_wp2_with fail
        refine (scan_bad (blanks_s hi2) hx3).mono ?_; rintro e w3 ⟨rfl, hg3, kk, hp⟩
        go_wp2_with fail
        exact ⟨rfl, rfl, grownBy_trans hg0 (grownBy_trans hg1 (grownBy_trans hg2 (hg3))), kk, hp⟩
    · rw [bind_bad]
      go_enter Tryd.func38, Tryd.ntmps38
      go_wp2_with fail
      obtain ⟨hi0, hg0⟩ := HH.out; refine (scan_ok (blanks_s hi0) hx1).mono ?_; rintro e w1 ⟨rfl, hg1, hi1⟩
      go_wp2_with fail
      refine (scan_bad (setv_s hi1) hx2).mono ?_; rintro e w2 ⟨rfl, hg2, kk, hp⟩
      go_wp2_with fail
      exact ⟨rfl, rfl, grownBy_trans hg0 (grownBy_trans hg1 (hg2)), kk, hp⟩
  · rw [bind_bad]
    go_enter Tryd.func38, Tryd.ntmps38
    go_wp2_with fail
    obtain ⟨hi0, hg0⟩ := HH.out; refine (scan_bad (blanks_s hi0) hx1).mono ?_; rintro e w1 ⟨rfl, hg1, kk, hp⟩
    go_wp2_with fail
    exact ⟨rfl, rfl, grownBy_trans hg0 (hg1), kk, hp⟩
end Go.Proofs.YtjcgnbmpnaapdaaDoor
