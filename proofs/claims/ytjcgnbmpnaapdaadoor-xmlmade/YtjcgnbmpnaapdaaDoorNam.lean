/- The contract of value: an attribute's value. -/
import Derived.Test.YtjcgnbmpnaapdaaDoorPure1
import Derived.Lib.Strings
namespace Go.Proofs.YtjcgnbmpnaapdaaDoor
open Go.RowKit
set_option linter.unusedVariables false

/-- A run in a block of its own: where it began, what came out. -/
structure VR (B V : Nat) (at0 : Int) (out : Bs) (w : World) : Prop where
  ex : ∃ ov, w.heap[V]? = some (.cells #[.bool false, .int .i64 at0, ov] 77 (0, 0)) ∧ OR B w ov out
  bd : ∀ i, 0 ≤ out.getD i 0 ∧ out.getD i 0 < 256
  lo : B ≤ V
  sz : B ≤ w.heap.size
theorem VR.kept {B V P : Nat} {at0 : Int} {out : Bs} {w w' : World} {v : PV} (h : VR B V at0 out w) (hp : PS w P v) (hg : w.grownBy w' (some P)) : VR B V at0 out w' := by
  obtain ⟨ov, h1, h2⟩ := h.ex
  refine ⟨⟨ov, ?_, h2.kept hg (own_ne81 hp h2 (by decide))⟩, h.bd, h.lo, Nat.le_trans h.sz hg.size⟩
  rw [hg.block V (Array.getElem?_eq_some_iff.1 h1).1]
  · exact h1
  · intro e
    cases e
    unfold PS at hp
    rw [h1] at hp
    simp at hp
theorem VR.drewN {B V : Nat} {at0 : Int} {out : Bs} {w : World} (h : VR B V at0 out w) (n : Nat) : VR B V at0 out (w.drewN n) := ⟨h.ex, h.bd, h.lo, h.sz⟩
theorem In.below {P k B : Nat} {w w' : World} {v : PV} {l : Bs} (h : In P w v l k) (hb : Below B w w') (hP : P < B) (hgb : ∀ g, v.b.ownBlock = some g → g < B) : In P w' v l k := by
  refine ⟨(hb.block P hP).trans h.ps, ⟨⟨h.br.1.1, ?_⟩, h.br.2⟩, h.ke, h.kl, h.ll⟩
  rcases h.br.1.2 with hn | ⟨g, cap, cur, hv, h0, hg, rest⟩
  · exact .inl hn
  · refine .inr ⟨g, cap, cur, hv, h0, ?_, rest⟩
    rw [hb.block g (hgb g (by rw [hv]; rfl))]
    exact hg
theorem app_bd {a b : Bs} (ha : ∀ i, 0 ≤ a.getD i 0 ∧ a.getD i 0 < 256) (hb : ∀ i, 0 ≤ b.getD i 0 ∧ b.getD i 0 < 256) : ∀ i, 0 ≤ (a ++ b).getD i 0 ∧ (a ++ b).getD i 0 < 256 := by
  intro i
  rcases Nat.lt_or_ge i a.length with h | h
  · have := ha i
    simp [List.getD_eq_getElem?_getD, List.getElem?_append_left h] at this ⊢
    exact this
  · have := hb (i - a.length)
    simp [List.getD_eq_getElem?_getD, List.getElem?_append_right h] at this ⊢
    exact this
theorem grown_below {w w1 w2 : World} {B P : Nat} (h : w.grownBy w1 (some P)) (hb : Below B w1 w2) (hB : w.heap.size ≤ B) : w.grownBy w2 (some P) :=
  ⟨hb.os.trans h.os, hb.tape.trans h.tape, hb.output.trans h.output, Nat.le_trans h.size hb.size, fun k hk hne => (hb.block k (by omega)).trans (h.block k hk hne)⟩

theorem put_v {P k B V : Nat} {at0 r : Int} {out : Bs} {v : PV} {l : Bs} {w : World} (h : In P w v l k) (hv : VR B V at0 out w) (hP : P < B) (hl : out.length ≤ 65536) (hr : isChar r = true) :
    Calls Tryd.prog 44 #[pp P, .pointer (some ⟨V, 0, none⟩), .int .i32 r] w fun e w' => e = putE v.t at0 out r ∧ Below B w w' ∧ VR B V at0 (out ++ enc r) w' := by
  obtain ⟨ov, h1, h2⟩ := hv.ex
  have hV : V < w.heap.size := (Array.getElem?_eq_some_iff.1 h1).1
  have hne : ov.ownBlock ≠ some V := by
    rcases h2.2 with ⟨rfl, _⟩ | ⟨g, cap, cur, rfl, _, hg, _⟩
    · simp [Value.ownBlock]
    · intro e
      simp [Value.ownBlock] at e
      subst e
      rw [h1] at hg
      simp at hg
  have hneP : ov.ownBlock ≠ some P := by
    rcases own_ne81 h.ps h2 (by decide) with e | e
    · rw [e]; simp
    · exact e
  have hc : w.cell? ⟨V, 0 + 2, none⟩ = some ov := by simp [World.cell?, h1]
  have hf : w.frozen? ⟨V, 0 + 2, none⟩ = false := by simp [World.frozen?, h1]
  have ha : w.cell? ⟨V, 0 + 1, none⟩ = some (.int .i64 at0) := by simp [World.cell?, h1]
  refine (put_any (P := P) (T := v.t) (at0 := at0) (r := r) hc hf ha (h.ps.cell 6) h2 hv.sz hl hne hneP hr ?_).mono ?_
  · rintro ⟨_, e⟩; simp at e
  · rintro e w' ⟨rfl, ov', w3, m, hg3, ho3, hnn, hnb, rfl⟩
    have hV3 : w3.heap[V]? = some (.cells #[.bool false, .int .i64 at0, ov] 77 (0, 0)) := (hg3.block V hV (fun e => hne e.symm)).trans h1
    have hne' : ov'.ownBlock ≠ some V := by
      rcases ho3.2 with ⟨rfl, _⟩ | ⟨g, cap, cur, rfl, _, hg, _⟩
      · simp [Value.ownBlock]
      · intro e
        simp [Value.ownBlock] at e
        subst e
        rw [hV3] at hg
        simp at hg
    refine ⟨rfl, ?_, ⟨⟨ov', ?_, ?_⟩, app_bd hv.bd (enc_bd r), hv.lo, Nat.le_trans hv.sz (Nat.le_trans hg3.size (by simp [World.setCell]))⟩⟩
    · have hb3 : Below B w w3 := (Below.refl B w).grown hg3 hv.sz (fun k hk => (h2.lt k hk).1)
      have hb4 := hb3.setCell (p := ⟨V, 0 + 2, none⟩) hv.lo ov'
      exact ⟨hb4.os, hb4.tape, hb4.output, hb4.size, hb4.block⟩
    · show (w3.setCell ⟨V, 0 + 2, none⟩ ov').heap[V]? = _
      simp only [World.setCell, Array.getElem?_modify]
      rw [if_pos trivial, hV3]
      simp
    · show (w3.setCell ⟨V, 0 + 2, none⟩ ov').ownsRow B 5 1 ov' _ _
      exact ho3.kept (grownBy_set w3 V _ _) (.inr hne')

theorem In.gb {P k : Nat} {w : World} {v : PV} {l : Bs} (h : In P w v l k) : ∀ g, v.b.ownBlock = some g → g < w.heap.size := fun g hg => (h.br.1.lt g hg).2

theorem own_base {w : World} {base base' : Nat} {e : TypeId} {size : Nat} {v : Value} {n : Nat} {xs : List Value} (h : w.ownsRow base e size v n xs) (hb : base' ≤ base) : w.ownsRow base' e size v n xs := by
  refine ⟨h.1, ?_⟩
  rcases h.2 with h2 | ⟨g, cap, cur, hv, h0, r⟩
  · exact .inl h2
  · exact .inr ⟨g, cap, cur, hv, Nat.le_trans hb h0, r⟩
theorem conv_row {w : World} {ov : Value} {out : Bs} (h : BR w ov out) : (convert 25 9 ov).run Tryd.prog w = .ok (.string (sb out)) w := by
  rcases h.form with ⟨rfl, rfl⟩ | ⟨g, cap, rfl, _, _, hb⟩
  · exact conv_nil w
  · exact conv_bts _ cap out w hb (fun e => by cases e)
set_option maxHeartbeats 3200000 in
theorem value_s {P k : Nat} {v : PV} {l : Bs} {w : World} (h : In P w v l k) (hT : 0 ≤ v.t ∧ v.t ≤ 4096) : Calls Tryd.prog 91 #[pp P] w (Scan P w v l (fun s => .string (sb s)) (valueS l v.t k)) := by
  have c1 := h.rd
  have hPB : P < w.heap.size := h.ps.lt
  have hgb := h.gb
  have hT1 := hT.1
  have hT2 := hT.2
  have h0 := h.alloc (.cells #[.bool false, .int .i64 k, .slice none 0 0] 77)
  have hv0 : VR w.heap.size w.heap.size k [] (w.alloc (.cells #[.bool false, .int .i64 k, .slice none 0 0] 77)) :=
    ⟨⟨_, heap_alloc_new w _, World.ownsRow_nil _ _ _ _⟩, bd_nil, Nat.le_refl _, by simp⟩
  have hg0 : w.grownBy (w.alloc (.cells #[.bool false, .int .i64 k, .slice none 0 0] 77)) (some P) := World.grownBy_alloc _ _ _
  rw [valueS]
  rcases hq : quoteS l k with ⟨q, k1⟩ | ⟨p, er⟩
  · rw [bind_ok]
    go_enter Tryd.func91, Tryd.ntmps91
    go_wp2_with (go_at_call 71; refine (scan_ok (quote_s h0) hq).mono ?_; rintro e w1 ⟨rfl, hg1, hi1⟩)
    have hv1 := hv0.kept h0.ps hg1
    go_loopg [] (l.length + 1) (fun n wr => ∃ (j : Nat) (out : Bs), w.grownBy wr (some P) ∧ In P wr { v with k := (j : Int) } l j ∧ VR w.heap.size w.heap.size k out wr ∧ (out.length : Int) ≤ v.t ∧ l.length - j + 1 ≤ n ∧ Hid (valL n l v.t k q out j = valL (l.length + 1) l v.t k q [] k1))
    case atStart => exact ⟨k1, [], grownBy_trans hg0 hg1, hi1, hv1, by simp; omega, by omega, rfl⟩
    case round =>
      obtain ⟨j, out, hg, hi, hv, hlo, hn, HF⟩ := hrel
      obtain ⟨n, rfl⟩ : ∃ n, gk = n + 1 := ⟨gk - 1, by omega⟩
      have d1 := hi.rd
      have hjl := hi.kl
      have hgA : ∀ w', wr.grownBy w' (some P) → w.grownBy w' (some P) := fun w' hx => grownBy_trans hg hx
      have hvr2 : ∀ w', wr.grownBy w' (some P) → VR w.heap.size w.heap.size k out w' := fun w' hx => hv.kept hi.ps hx
      clear hg1 hi1 hv1 h0 hv0 hg0 hq
      cases hok : okl l j
      · have HR : Hid (valL (l.length + 1) l v.t k q [] k1 = .bad j 2) := by
          rw [← HF.out, valL, peekS_f hok]; exact rfl
        go_wp2_with (first | (go_at_call 40; refine (peek_f hi hok).mono ?_; rintro e w' ⟨rfl, m, rfl⟩))
        refine ⟨rfl, ?_⟩
        rw [HR.out]
        exact ⟨rfl, hgA _ (gd _), _, hi.ps⟩
      · have hpos := ln_pos hok
        by_cases hrq : lt l j = q
        · have HR : Hid (valL (l.length + 1) l v.t k q [] k1 = .ok out (j + ln l j)) := by
            rw [← HF.out, valL, peekS_t hok, bind_ok, if_pos hrq]; exact rfl
          have hrqb : (lt l j == q) = true := by simp [hrq]
          clear hrq
          go_wp2_with (first | (go_at_call 40; refine (peek_t hi hok).mono ?_; rintro e w' ⟨rfl, m, rfl⟩) | (go_at_call 41; refine (take_t (hi.drewN _) hok).mono ?_; rintro e w3 ⟨rfl, hg3, hi3⟩; obtain ⟨ov, hV3, hO3⟩ := (hvr2 _ (grownBy_trans (gd _) hg3)).ex; have hcell : w3.cell? ⟨w.heap.size, 2, none⟩ = some ov := (by simp [World.cell?, hV3]); have hcv := conv_row ⟨own_base hO3 (Nat.zero_le _), hv.bd⟩; have HV3 : Hid _ := hV3; have HO3 : Hid _ := hO3; clear hV3 hO3))
          go_ret
          rw [HR.out]
          exact ⟨rfl, hgA _ (grownBy_trans (gd _) hg3), hi3⟩
        · have hrqb : (lt l j == q) = false := by simp [hrq]
          by_cases h60 : lt l j = 60
          · have HR : Hid (valL (l.length + 1) l v.t k q [] k1 = .bad j 2) := by
              rw [← HF.out, valL, peekS_t hok, bind_ok, if_neg hrq, if_pos h60]; exact rfl
            clear hrq
            go_wp2_with (first | (go_at_call 40; refine (peek_t hi hok).mono ?_; rintro e w' ⟨rfl, m, rfl⟩) | (go_at_call 47; refine (fail_any _ _ _).mono ?_; rintro e w' ⟨rfl, rfl⟩))
            refine ⟨rfl, ?_⟩
            rw [HR.out]
            exact ⟨rfl, hgA _ (gd _), _, hi.ps⟩
          · have h60b : (lt l j == 60) = false := by simp [h60]
            by_cases h38 : lt l j = 38
            · have h38b : (lt l j == 38) = true := by simp [h38]
              rcases hrf : refS l j with ⟨c, k2⟩ | ⟨p, er⟩
              · have HRF : Hid (refS l j = .ok c k2) := hrf
                obtain ⟨hcr, hk2⟩ := refS_ok hrf
                clear hrf
                have hcc : isChar (c) = true := hcr
                by_cases hbig : v.t < ((out ++ enc (c)).length : Int)
                · have HP : Hid (putE v.t (k : Int) out (c) = .panicked (flt k 3)) := by unfold putE; rw [if_pos hbig]; exact rfl
                  have HR : Hid (valL (l.length + 1) l v.t k q [] k1 = .bad k 3) := by
                    rw [← HF.out, valL, peekS_t hok, bind_ok]
                    rw [if_neg hrq, if_neg h60, if_pos h38, HRF.out, bind_ok]
                    rw [putS, if_pos hbig]
                    exact rfl
                  clear hrq h60 h38
                  go_wp2_with (first | (go_at_call 40; refine (peek_t hi hok).mono ?_; rintro e w' ⟨rfl, m, rfl⟩) | (go_at_call 45; refine (scan_ok (ref_s (hi.drewN _)) HRF.out).mono ?_; rintro e w3 ⟨rfl, hg3, hi3⟩) | (go_at_call 44; refine (put_v hi3 (hvr2 _ (grownBy_trans (gd _) hg3)) hPB (by omega) hcc).mono ?_; rw [HP.out]; rintro e w4 ⟨rfl, hb4, hv4⟩))
                  refine ⟨rfl, ?_⟩
                  rw [HR.out]
                  exact ⟨rfl, grown_below (hgA _ (grownBy_trans (gd _) hg3)) hb4 (Nat.le_refl _), _, ((hi3).below hb4 hPB hgb).ps⟩
                · have HP : Hid (putE v.t (k : Int) out (c) = .returned (.tuple #[])) := by unfold putE; rw [if_neg hbig]; exact rfl
                  have HS : Hid (valL n l v.t k q (out ++ enc (c)) (k2) = valL (l.length + 1) l v.t k q [] k1) := by
                    rw [← HF.out, valL, peekS_t hok, bind_ok]
                    rw [if_neg hrq, if_neg h60, if_pos h38, HRF.out, bind_ok]
                    rw [putS, if_neg hbig]
                    exact rfl
                  clear hrq h60 h38
                  go_wp2_with (first | (go_at_call 40; refine (peek_t hi hok).mono ?_; rintro e w' ⟨rfl, m, rfl⟩) | (go_at_call 45; refine (scan_ok (ref_s (hi.drewN _)) HRF.out).mono ?_; rintro e w3 ⟨rfl, hg3, hi3⟩) | (go_at_call 44; refine (put_v hi3 (hvr2 _ (grownBy_trans (gd _) hg3)) hPB (by omega) hcc).mono ?_; rw [HP.out]; rintro e w4 ⟨rfl, hb4, hv4⟩))
                  go_roundg n
                  case measure => omega
                  case rel => exact ⟨k2, out ++ enc (c), grown_below (hgA _ (grownBy_trans (gd _) hg3)) hb4 (Nat.le_refl _), (hi3).below hb4 hPB hgb, hv4, by omega, by have := (hi3).kl; omega, HS⟩
              · have HRF : Hid (refS l j = .bad p er) := hrf
                clear hrf
                have HR : Hid (valL (l.length + 1) l v.t k q [] k1 = .bad p er) := by
                  rw [← HF.out, valL, peekS_t hok, bind_ok, if_neg hrq, if_neg h60, if_pos h38, HRF.out]; exact rfl
                clear hrq h60 h38
                go_wp2_with (first | (go_at_call 40; refine (peek_t hi hok).mono ?_; rintro e w' ⟨rfl, m, rfl⟩) | (go_at_call 45; refine (scan_bad (ref_s (hi.drewN _)) HRF.out).mono ?_; rintro e w3 ⟨rfl, hg3, kk, hp3⟩))
                refine ⟨rfl, ?_⟩
                rw [HR.out]
                exact ⟨rfl, hgA _ (grownBy_trans (gd _) hg3), kk, hp3⟩
            · have h38b : (lt l j == 38) = false := by simp [h38]
              cases hw : isWhite (lt l j)
              · have hcr : okl l j = true := hok
                have hcc : isChar (lt l j) = true := hok
                by_cases hbig : v.t < ((out ++ enc (lt l j)).length : Int)
                · have HP : Hid (putE v.t (k : Int) out (lt l j) = .panicked (flt k 3)) := by unfold putE; rw [if_pos hbig]; exact rfl
                  have HR : Hid (valL (l.length + 1) l v.t k q [] k1 = .bad k 3) := by
                    rw [← HF.out, valL, peekS_t hok, bind_ok]
                    rw [if_neg hrq, if_neg h60, if_neg h38, if_neg (by rw [hw]; simp), takeS_t hok, bind_ok]
                    rw [putS, if_pos hbig]
                    exact rfl
                  clear hrq h60 h38
                  go_wp2_with (first | (go_at_call 40; refine (peek_t hi hok).mono ?_; rintro e w' ⟨rfl, m, rfl⟩) | (go_at_call 50; refine (white_any _ _).mono ?_; rintro e w' ⟨rfl, rfl⟩) | (go_at_call 41; refine (take_t (hi.drewN _) hok).mono ?_; rintro e w3 ⟨rfl, hg3, hi3⟩) | (go_at_call 44; refine (put_v hi3 (hvr2 _ (grownBy_trans (gd _) hg3)) hPB (by omega) hcc).mono ?_; rw [HP.out]; rintro e w4 ⟨rfl, hb4, hv4⟩))
                  refine ⟨rfl, ?_⟩
                  rw [HR.out]
                  exact ⟨rfl, grown_below (hgA _ (grownBy_trans (gd _) hg3)) hb4 (Nat.le_refl _), _, ((hi3).below hb4 hPB hgb).ps⟩
                · have HP : Hid (putE v.t (k : Int) out (lt l j) = .returned (.tuple #[])) := by unfold putE; rw [if_neg hbig]; exact rfl
                  have HS : Hid (valL n l v.t k q (out ++ enc (lt l j)) (j + ln l j) = valL (l.length + 1) l v.t k q [] k1) := by
                    rw [← HF.out, valL, peekS_t hok, bind_ok]
                    rw [if_neg hrq, if_neg h60, if_neg h38, if_neg (by rw [hw]; simp), takeS_t hok, bind_ok]
                    rw [putS, if_neg hbig]
                    exact rfl
                  clear hrq h60 h38
                  go_wp2_with (first | (go_at_call 40; refine (peek_t hi hok).mono ?_; rintro e w' ⟨rfl, m, rfl⟩) | (go_at_call 50; refine (white_any _ _).mono ?_; rintro e w' ⟨rfl, rfl⟩) | (go_at_call 41; refine (take_t (hi.drewN _) hok).mono ?_; rintro e w3 ⟨rfl, hg3, hi3⟩) | (go_at_call 44; refine (put_v hi3 (hvr2 _ (grownBy_trans (gd _) hg3)) hPB (by omega) hcc).mono ?_; rw [HP.out]; rintro e w4 ⟨rfl, hb4, hv4⟩))
                  go_roundg n
                  case measure => omega
                  case rel => exact ⟨j + ln l j, out ++ enc (lt l j), grown_below (hgA _ (grownBy_trans (gd _) hg3)) hb4 (Nat.le_refl _), (hi3).below hb4 hPB hgb, hv4, by omega, by have := (hi3).kl; omega, HS⟩
              · rcases hln : lineS l j with ⟨c, k2⟩ | ⟨p, er⟩
                · have HLN : Hid (lineS l j = .ok c k2) := hln
                  obtain ⟨hcr, hk2⟩ := lineS_ok hln
                  clear hln
                  have hcc : isChar (32) = true := by decide
                  by_cases hbig : v.t < ((out ++ enc (32)).length : Int)
                  · have HP : Hid (putE v.t (k : Int) out (32) = .panicked (flt k 3)) := by unfold putE; rw [if_pos hbig]; exact rfl
                    have HR : Hid (valL (l.length + 1) l v.t k q [] k1 = .bad k 3) := by
                      rw [← HF.out, valL, peekS_t hok, bind_ok]
                      rw [if_neg hrq, if_neg h60, if_neg h38, if_pos hw, HLN.out, bind_ok]
                      rw [putS, if_pos hbig]
                      exact rfl
                    clear hrq h60 h38
                    go_wp2_with (first | (go_at_call 40; refine (peek_t hi hok).mono ?_; rintro e w' ⟨rfl, m, rfl⟩) | (go_at_call 50; refine (white_any _ _).mono ?_; rintro e w' ⟨rfl, rfl⟩) | (go_at_call 48; refine (scan_ok (line_s (hi.drewN _)) HLN.out).mono ?_; rintro e w3 ⟨rfl, hg3, hi3⟩) | (go_at_call 44; refine (put_v hi3 (hvr2 _ (grownBy_trans (gd _) hg3)) hPB (by omega) hcc).mono ?_; rw [HP.out]; rintro e w4 ⟨rfl, hb4, hv4⟩))
                    refine ⟨rfl, ?_⟩
                    rw [HR.out]
                    exact ⟨rfl, grown_below (hgA _ (grownBy_trans (gd _) hg3)) hb4 (Nat.le_refl _), _, ((hi3).below hb4 hPB hgb).ps⟩
                  · have HP : Hid (putE v.t (k : Int) out (32) = .returned (.tuple #[])) := by unfold putE; rw [if_neg hbig]; exact rfl
                    have HS : Hid (valL n l v.t k q (out ++ enc (32)) (k2) = valL (l.length + 1) l v.t k q [] k1) := by
                      rw [← HF.out, valL, peekS_t hok, bind_ok]
                      rw [if_neg hrq, if_neg h60, if_neg h38, if_pos hw, HLN.out, bind_ok]
                      rw [putS, if_neg hbig]
                      exact rfl
                    clear hrq h60 h38
                    go_wp2_with (first | (go_at_call 40; refine (peek_t hi hok).mono ?_; rintro e w' ⟨rfl, m, rfl⟩) | (go_at_call 50; refine (white_any _ _).mono ?_; rintro e w' ⟨rfl, rfl⟩) | (go_at_call 48; refine (scan_ok (line_s (hi.drewN _)) HLN.out).mono ?_; rintro e w3 ⟨rfl, hg3, hi3⟩) | (go_at_call 44; refine (put_v hi3 (hvr2 _ (grownBy_trans (gd _) hg3)) hPB (by omega) hcc).mono ?_; rw [HP.out]; rintro e w4 ⟨rfl, hb4, hv4⟩))
                    go_roundg n
                    case measure => omega
                    case rel => exact ⟨k2, out ++ enc (32), grown_below (hgA _ (grownBy_trans (gd _) hg3)) hb4 (Nat.le_refl _), (hi3).below hb4 hPB hgb, hv4, by omega, by have := (hi3).kl; omega, HS⟩
                · exfalso
                  rw [lineS, takeS_t hok, bind_ok] at hln
                  split at hln
                  · split at hln <;> cases hln
                  · cases hln
  · rw [bind_bad]
    go_enter Tryd.func91, Tryd.ntmps91
    go_wp2_with (go_at_call 71; refine (scan_bad (quote_s h0) hq).mono ?_; rintro e w1 ⟨rfl, hg1, kk, hp⟩)
    exact ⟨rfl, rfl, grownBy_trans hg0 hg1, kk, hp⟩
end Go.Proofs.YtjcgnbmpnaapdaaDoor
namespace Go.Proofs.YtjcgnbmpnaapdaaDoor
open Go.RowKit
set_option linter.unusedVariables false

def atCells (a : At) : List Value := [.string (sb a.name), .string (sb a.value), .int .i64 a.place]
/-- A row of attributes of its own. -/
abbrev AR (B : Nat) (w : World) (sv : Value) (l : List At) : Prop := w.ownsRow B 37 3 sv l.length (l.flatMap atCells)

theorem at_get (l : List At) : ∀ (i c : Nat) (hi : i < l.length), c < 3 → (l.flatMap atCells)[3 * i + c]? = (atCells (l[i]'hi))[c]? := by
  induction l with
  | nil => intro i c hi; simp at hi
  | cons a l ih =>
    intro i c hi hc
    rw [List.flatMap_cons]
    cases i with
    | zero =>
      rw [List.getElem?_append_left (by simp [atCells]; omega)]
      simp
    | succ i =>
      rw [List.getElem?_append_right (by simp [atCells]; omega)]
      have e : 3 * (i + 1) + c - (atCells a).length = 3 * i + c := by simp [atCells]; omega
      rw [e, ih i c (by simpa using hi) hc]
      simp

theorem clo_any {A : Nat} {nm val nm0 : ByteArray} {pl : Int} {w : World} (hA : w.cell? ⟨A, 0, none⟩ = some (.string nm0)) :
    Calls Tryd.prog 90 #[.agg #[.string nm, .string val, .int .i64 pl], .pointer (some ⟨A, 0, none⟩)] w fun e w' => e = .returned (.bool (nm.toList == nm0.toList)) ∧ Below w.heap.size w w' := by
  have hlt : A < w.heap.size := World.block_lt_of_cell? w _ hA
  have hne : A ≠ w.heap.size := by omega
  go_enter Tryd.func90, Tryd.ntmps90
  go_wp2
  go_ret
  exact ⟨rfl, (Below.refl _ _).alloc (Nat.le_refl _) _⟩

theorem sb_beq {a b : Bs} (ha : ∀ i, 0 ≤ a.getD i 0 ∧ a.getD i 0 < 256) (hb : ∀ i, 0 ≤ b.getD i 0 ∧ b.getD i 0 < 256) : ((sb a).toList == (sb b).toList) = (a == b) := by
  rw [Bool.eq_iff_iff, beq_iff_eq, beq_iff_eq]
  constructor
  · intro h
    rw [Lib.toList_data, Lib.toList_data] at h
    rw [← bl_sb a ha, ← bl_sb b hb]
    unfold bl
    rw [h]
  · rintro rfl; rfl
def AtOk (a : At) : Prop := (∀ i, 0 ≤ a.name.getD i 0 ∧ a.name.getD i 0 < 256) ∧ (∀ i, 0 ≤ a.value.getD i 0 ∧ a.value.getD i 0 < 256)

theorem AR.cell {B : Nat} {w : World} {g cap : Nat} {l : List At} (h : AR B w (.slice (some ⟨g, 0, none⟩) l.length cap) l) (i c : Nat) (hi : i < l.length) (hc : c < 3) : w.cell? ⟨g, i * 3 + c, none⟩ = (atCells (l[i]'hi))[c]? := by
  rw [Nat.mul_comm i 3]
  have hx := at_get l i c hi hc
  have hlen : c < (atCells (l[i]'hi)).length := by simp [atCells]; exact hc
  rw [List.getElem?_eq_getElem hlen] at hx
  have := h.cells (g := g) rfl (3 * i + c) _ hx
  rw [addr_add, Nat.zero_add] at this
  rw [this, List.getElem?_eq_getElem hlen]
theorem AR.form {B : Nat} {w : World} {sv : Value} {l : List At} (h : AR B w sv l) : (sv = .slice none 0 0 ∧ l = []) ∨ ∃ g cap, sv = .slice (some ⟨g, 0, none⟩) l.length cap ∧ l.length ≤ cap ∧ cap ≤ maxLen ∧ B ≤ g ∧ g < w.heap.size := by
  rcases h.2 with ⟨rfl, h0⟩ | ⟨g, cap, cur, rfl, hbg, hg, hnc, hcm, hcs, htake⟩
  · exact .inl ⟨rfl, List.eq_nil_of_length_eq_zero h0⟩
  · exact .inr ⟨g, cap, rfl, hnc, hcm, hbg, (Array.getElem?_eq_some_iff.1 hg).1⟩

set_option maxHeartbeats 800000 in
theorem idx_any {A B : Nat} {nm : Bs} {sv : Value} {l : List At} {w : World} (hA : w.cell? ⟨A, 0, none⟩ = some (.string (sb nm))) (hnm : ∀ i, 0 ≤ nm.getD i 0 ∧ nm.getD i 0 < 256) (hok : ∀ a ∈ l, AtOk a) (h : AR B w sv l) (hl : l.length ≤ 4096) :
    Calls Tryd.prog 97 #[sv, .func (Fn.func 90) #[] #[.pointer (some ⟨A, 0, none⟩)]] w fun e w' => ∃ i : Int, e = .returned (.int .i64 i) ∧ (l.any fun a => a.name == nm) = decide (0 ≤ i) ∧ Below w.heap.size w w' := by
  rcases h.form with ⟨rfl, rfl⟩ | ⟨g, cap, rfl, hc, hm, _, hg⟩
  · go_enter Tryd.func97, Tryd.ntmps97
    go_wp2
    go_loopg [8] 0 (fun n iv wr => iv = .int .i64 0 ∧ wr = w)
    case atStart => exact ⟨rfl, rfl⟩
    case round =>
      obtain ⟨rfl, rfl⟩ := hrel
      go_wp2
      go_ret
      exact ⟨-1, rfl, rfl, Below.refl _ _⟩
  · have HC := fun i c hi hc => AR.cell h i c hi hc
    unfold maxLen at hm
    have hAlt : A < w.heap.size := World.block_lt_of_cell? w _ hA
    go_enter Tryd.func97, Tryd.ntmps97
    go_wp2
    go_loopg [8] l.length (fun n iv wr => ∃ i : Nat, iv = .int .i64 i ∧ i + n = l.length ∧ Below w.heap.size w wr ∧ Hid ((l.take i).any (fun a => a.name == nm) = false))
    case atStart => exact ⟨0, rfl, by omega, Below.refl _ _, rfl⟩
    case round =>
      obtain ⟨i, rfl, hin, hb, HF⟩ := hrel
      by_cases hlt : i < l.length
      · have e0 := (hb.cell (p := ⟨g, i * 3 + 0, none⟩) hg).trans (HC i 0 hlt (by omega))
        have e1 := (hb.cell (p := ⟨g, i * 3 + 1, none⟩) hg).trans (HC i 1 hlt (by omega))
        have e2 := (hb.cell (p := ⟨g, i * 3 + 2, none⟩) hg).trans (HC i 2 hlt (by omega))
        have hA' := (hb.cell (p := ⟨A, 0, none⟩) hAlt).trans hA
        have HOK := hok _ (List.getElem_mem hlt)
        have HT : Hid (l.take (i + 1) = l.take i ++ [l[i]]) := List.take_succ_eq_append_getElem hlt
        simp [atCells] at e0 e1 e2
        clear HC hok h
        generalize l[i] = a at *
        have hbe := sb_beq HOK.1 hnm
        cases hq : (a.name == nm)
        · rw [hq] at hbe
          go_wp2_with (first | (go_at_call 90; refine (clo_any hA').mono ?_; rintro e w2 ⟨rfl, hb2⟩))
          go_roundg (l.length - (i + 1))
          case measure => omega
          case rel =>
            refine ⟨i + 1, by go_num, by omega, hb.trans (hb2.mono hb.size), ?_⟩
            show _ = false
            rw [HT.out, List.any_append, HF.out]
            simp [hq]
        · rw [hq] at hbe
          go_wp2_with (first | (go_at_call 90; refine (clo_any hA').mono ?_; rintro e w2 ⟨rfl, hb2⟩))
          go_ret
          refine ⟨i, rfl, ?_, hb.trans (hb2.mono hb.size)⟩
          have : l.any (fun a => a.name == nm) = true := by
            rw [List.any_eq_true]
            refine ⟨a, ?_, hq⟩
            have : a ∈ l.take (i + 1) := by rw [HT.out]; simp
            exact List.mem_of_mem_take this
          rw [this]
          simp
      · go_wp2
        go_ret
        refine ⟨-1, rfl, ?_, hb⟩
        have := HF.out
        rw [List.take_of_length_le (by omega)] at this
        rw [this]; rfl

theorem contains_any {A B : Nat} {nm : Bs} {sv : Value} {l : List At} {w : World} (hA : w.cell? ⟨A, 0, none⟩ = some (.string (sb nm))) (hnm : ∀ i, 0 ≤ nm.getD i 0 ∧ nm.getD i 0 < 256) (hok : ∀ a ∈ l, AtOk a) (h : AR B w sv l) (hl : l.length ≤ 4096) :
    Calls Tryd.prog 89 #[sv, .func (Fn.func 90) #[] #[.pointer (some ⟨A, 0, none⟩)]] w fun e w' => e = .returned (.bool (l.any fun a => a.name == nm)) ∧ Below w.heap.size w w' := by
  have H := idx_any hA hnm hok h hl
  generalize (l.any fun a => a.name == nm) = r at *
  go_enter Tryd.func89, Tryd.ntmps89
  go_wp2_with (first | (go_at_call 97; refine H.mono ?_; rintro e w2 ⟨i, rfl, rfl, hb2⟩))
  go_ret
  exact ⟨rfl, hb2⟩
end Go.Proofs.YtjcgnbmpnaapdaaDoor
namespace Go.Proofs.YtjcgnbmpnaapdaaDoor
open Go.RowKit
set_option linter.unusedVariables false

theorem Bk.kept {w w' : World} {P X : Nat} {t : TypeId} {cs : Array Value} {v : PV} (h : w.heap[X]? = some (.cells cs t (0, 0))) (ht : t ≠ 81) (hp : PS w P v) (hg : w.grownBy w' (some P)) : w'.heap[X]? = some (.cells cs t (0, 0)) := by
  rw [hg.block X (Array.getElem?_eq_some_iff.1 h).1]
  · exact h
  · intro e
    cases e
    unfold PS at hp
    rw [h] at hp
    simp at hp
    exact ht hp.2
theorem Bk.below {w w' : World} {X : Nat} {o : Obj} (h : w.heap[X]? = some o) (hb : Below w.heap.size w w') : w'.heap[X]? = some o := (hb.block X (Array.getElem?_eq_some_iff.1 h).1).trans h
theorem Bk.belowd {w w' : World} {X m : Nat} {o : Obj} (h : w.heap[X]? = some o) (hb : Below (w.drewN m).heap.size (w.drewN m) w') : w'.heap[X]? = some o := Bk.below (w := w.drewN m) h hb
theorem Bk.set {w : World} {X i : Nat} {t : TypeId} {cs : Array Value} (h : w.heap[X]? = some (.cells cs t (0, 0))) (u : Value) : (w.setCell ⟨X, i, none⟩ u).heap[X]? = some (.cells (cs.setIfInBounds i u) t (0, 0)) := by
  simp only [World.setCell, Array.getElem?_modify]
  rw [if_pos trivial, h]
  simp
theorem Bk.cell {w : World} {X i : Nat} {t : TypeId} {cs : Array Value} (h : w.heap[X]? = some (.cells cs t (0, 0))) : w.cell? ⟨X, i, none⟩ = cs[i]? := by simp [World.cell?, h]
theorem Bk.froz {w : World} {X i : Nat} {t : TypeId} {cs : Array Value} (h : w.heap[X]? = some (.cells cs t (0, 0))) : w.frozen? ⟨X, i, none⟩ = false := by simp [World.frozen?, h]
theorem AR.kept' {B P : Nat} {w w' : World} {sv : Value} {l : List At} {v : PV} (h : AR B w sv l) (hp : PS w P v) (hg : w.grownBy w' (some P)) : AR B w' sv l := h.kept hg (own_ne81 hp h (by decide))
def atRet (a : At) : Value := .agg #[.string (sb a.name), .string (sb a.value), .int .i64 a.place]
theorem set_below {w : World} {B X i : Nat} (h : B ≤ X) (u : Value) : Below B w (w.setCell ⟨X, i, none⟩ u) := (Below.refl B w).setCell h u
theorem own_set {w : World} {B X i n size : Nat} {e : TypeId} {sv : Value} {xs : List Value} (h : w.ownsRow B e size sv n xs) (hne : sv.ownBlock ≠ some X) (u : Value) : (w.setCell ⟨X, i, none⟩ u).ownsRow B e size sv n xs := h.kept (grownBy_set w X i u) (.inr hne)

theorem sub_bd {l : Bs} {k j : Nat} (h : ∀ i, 0 ≤ l.getD i 0 ∧ l.getD i 0 < 256) : ∀ i, 0 ≤ (sub l k j).getD i 0 ∧ (sub l k j).getD i 0 < 256 := by
  intro i
  rcases Nat.lt_or_ge i (j - k) with hi | hi
  · rw [sub_at hi]; exact h _
  · have : (sub l k j).getD i 0 = 0 := by
      unfold sub
      simp [List.getD_eq_getElem?_getD]
      rw [List.getElem?_eq_none (by simp; omega)]
      rfl
    rw [this]; omega
theorem nameS_ok {l : Bs} {T : Int} {k j : Nat} {nm : Bs} (h : nameS l T k = .ok nm j) : nm = sub l k j ∧ okl l k = true ∧ isStart (lt l k) = true := by
  unfold nameS at h
  split at h
  · rename_i hh
    obtain ⟨_, j', h1, h2⟩ := bind_inv h
    cases h2
    exact ⟨rfl, hh.1, hh.2⟩
  · cases h
theorem valL_bd {l : Bs} {T at0 q : Int} : ∀ {n : Nat} {out r : Bs} {k k' : Nat}, valL n l T at0 q out k = .ok r k' → (∀ i, 0 ≤ out.getD i 0 ∧ out.getD i 0 < 256) → ∀ i, 0 ≤ r.getD i 0 ∧ r.getD i 0 < 256 := by
  intro n
  induction n with
  | zero => intro out r k k' h ho; rw [valL] at h; cases h
  | succ n ih =>
    intro out r k k' h ho
    rw [valL] at h
    obtain ⟨x, j, h1, h2⟩ := bind_inv h
    split at h2
    · cases h2; exact ho
    split at h2
    · cases h2
    have fin : ∀ {c : Int} {k2 : Nat}, ((putS T at0 out c k2).bind fun o k2 => valL n l T at0 q o k2) = .ok r k' → ∀ i, 0 ≤ r.getD i 0 ∧ r.getD i 0 < 256 := by
      intro c k2 hh
      obtain ⟨o, j2, h5, h6⟩ := bind_inv hh
      unfold putS at h5
      split at h5
      · cases h5
      · cases h5; exact ih h6 (app_bd ho (enc_bd c))
    split at h2
    · obtain ⟨c, j2, h3, h4⟩ := bind_inv h2; exact fin h4
    split at h2
    · obtain ⟨c, j2, h3, h4⟩ := bind_inv h2; exact fin h4
    · obtain ⟨c, j2, h3, h4⟩ := bind_inv h2; exact fin h4
theorem attrS_ok {l : Bs} {T : Int} {ahead : List At} {k k' : Nat} {a : At} (hl : ∀ i, 0 ≤ l.getD i 0 ∧ l.getD i 0 < 256) (h : attrS l T ahead k = .ok a k') : AtOk a := by
  unfold attrS at h
  obtain ⟨nm, k1, h1, h2⟩ := bind_inv h
  obtain ⟨_, _, h3, h4⟩ := bind_inv h2
  split at h4
  · cases h4
  obtain ⟨_, k2, h5, h6⟩ := bind_inv h4
  obtain ⟨vv, k3, h7, h8⟩ := bind_inv h6
  cases h8
  refine ⟨?_, ?_⟩
  · rw [(nameS_ok h1).1]; exact sub_bd hl
  · unfold valueS at h7
    obtain ⟨q, k4, h9, h10⟩ := bind_inv h7
    exact valL_bd h10 bd_nil

set_option maxHeartbeats 1600000 in
theorem attr_s {P k B : Nat} {sv : Value} {ahead : List At} {v : PV} {l : Bs} {w : World} (h : In P w v l k) (hT : 0 ≤ v.t ∧ v.t ≤ 4096) (hAR : AR B w sv ahead) (hok : ∀ a ∈ ahead, AtOk a) (hal : ahead.length ≤ 4096) :
    Calls Tryd.prog 77 #[pp P, sv] w (Scan P w v l atRet (attrS l v.t ahead k)) := by
  have c1 := h.rd
  have hPB : P < w.heap.size := h.ps.lt
  have hgb := h.gb
  have hmf : ∀ (fn : Fn) (first cap : Array Value) (w : World), (Instr.makeFunc fn first cap).run Tryd.prog w = .ok (.func fn first cap) w := fun _ _ _ _ => rfl
  have hR0 : ((w.alloc (.cells #[.string ⟨#[]⟩, .string ⟨#[]⟩, .int .i64 0] 37)).alloc (.cells #[.string ⟨#[]⟩, .string ⟨#[]⟩, .int .i64 k] 37)).heap[w.heap.size]? = some (.cells #[.string ⟨#[]⟩, .string ⟨#[]⟩, .int .i64 0] 37 (0, 0)) := by
    rw [Below.heap_alloc _ _ _ (by simp)]; exact heap_alloc_new w _
  have hA0 : ((w.alloc (.cells #[.string ⟨#[]⟩, .string ⟨#[]⟩, .int .i64 0] 37)).alloc (.cells #[.string ⟨#[]⟩, .string ⟨#[]⟩, .int .i64 k] 37)).heap[w.heap.size + 1]? = some (.cells #[.string ⟨#[]⟩, .string ⟨#[]⟩, .int .i64 k] 37 (0, 0)) := by
    have := heap_alloc_new (w.alloc (.cells #[.string ⟨#[]⟩, .string ⟨#[]⟩, .int .i64 0] 37)) (.cells #[.string ⟨#[]⟩, .string ⟨#[]⟩, .int .i64 k] 37)
    simpa using this
  have h0 := (h.alloc (.cells #[.string ⟨#[]⟩, .string ⟨#[]⟩, .int .i64 0] 37)).alloc (.cells #[.string ⟨#[]⟩, .string ⟨#[]⟩, .int .i64 k] 37)
  have hAR0 : AR B _ sv ahead := (hAR.alloc (.cells #[.string ⟨#[]⟩, .string ⟨#[]⟩, .int .i64 0] 37)).alloc (.cells #[.string ⟨#[]⟩, .string ⟨#[]⟩, .int .i64 k] 37)
  have hg0 : w.grownBy _ (some P) := grownBy_trans (World.grownBy_alloc w (.cells #[.string ⟨#[]⟩, .string ⟨#[]⟩, .int .i64 0] 37) _) (World.grownBy_alloc _ (.cells #[.string ⟨#[]⟩, .string ⟨#[]⟩, .int .i64 k] 37) _)
  have hsvA : sv.ownBlock ≠ some (w.heap.size + 1) := by
    intro e
    have := (hAR.lt _ e).2
    omega
  have cA0 : (#[Value.string ⟨#[]⟩, .string ⟨#[]⟩, .int .i64 k] : Array Value)[0]? = some (.string ⟨#[]⟩) := rfl
  rw [attrS]
  rcases hn : nameS l v.t k with ⟨nm, k1⟩ | ⟨p, er⟩
  · rw [bind_ok]
    have HN : Hid (nameS l v.t k = .ok nm k1) := hn
    clear hn
    have hnm : ∀ i, 0 ≤ nm.getD i 0 ∧ nm.getD i 0 < 256 := by rw [(nameS_ok HN.out).1]; exact sub_bd h.br.2
    cases hok1 : okl l k1
    · rw [peekS_f hok1, bind_bad]
      go_enter Tryd.func77, Tryd.ntmps77
      go_wp2_with (first | (go_at_call 72; refine (scan_ok (name_s h0 ⟨hT.1, by omega⟩) HN.out).mono ?_; rintro e w1 ⟨rfl, hg1, hi1⟩; have hA1 := Bk.kept hA0 (by decide) h0.ps hg1; have hR1 := Bk.kept hR0 (by decide) h0.ps hg1; have cA := Bk.cell (i := 0) hA1; have fA := Bk.froz (i := 0) hA1; simp only [cA0] at cA; have hi2 := hi1.below (set_below (i := 0) (X := w.heap.size + 1) (Nat.le_succ _) (Value.string (sb nm))) hPB hgb; have hA2 : (w1.setCell ⟨w.heap.size + 1, 0, none⟩ (Value.string (sb nm))).heap[w.heap.size + 1]? = some (.cells #[.string (sb nm), .string ⟨#[]⟩, .int .i64 k] 37 (0, 0)) := Bk.set (i := 0) hA1 (Value.string (sb nm)); have hAR1 := hAR0.kept' h0.ps hg1; have hAR2 := own_set (i := 0) hAR1 hsvA (Value.string (sb nm)); have hR2 := (Below.heap_setCell w1 ⟨w.heap.size + 1, 0, none⟩ (Value.string (sb nm)) w.heap.size (by simp)).trans hR1; have hsz1 : w.heap.size ≤ (w1.setCell ⟨w.heap.size + 1, 0, none⟩ (Value.string (sb nm))).heap.size := (by have e1 := hg0.size; have e2 := hg1.size; simp only [World.setCell, Array.size_modify]; omega); have HA2 : Hid _ := hA2; have HR2 : Hid _ := hR2; have HAR2 : Hid _ := hAR2; clear hA1 hR1 hA2 hR2 hAR1 hAR2) | (go_at_call 40; refine (peek_f hi2 hok1).mono ?_; rintro e w' ⟨rfl, m, rfl⟩))
      exact ⟨rfl, rfl, grown_below (grownBy_trans hg0 hg1) (below_drewN (set_below (Nat.le_succ _) _) m) (Nat.le_refl _), _, hi2.ps⟩
    · rw [peekS_t hok1, bind_ok]
      cases hany : (ahead.any fun a => a.name == nm)
      · rw [if_neg (by simp)]
        have HANY : Hid ((ahead.any fun a => a.name == nm) = false) := hany
        clear hany
        rcases heq : eqS l k1 with ⟨_, k2⟩ | ⟨p, er⟩
        · rw [bind_ok]
          have HEQ : Hid _ := heq
          clear heq
          rcases hvl : valueS l v.t k2 with ⟨vv, k3⟩ | ⟨p, er⟩
          · rw [bind_ok]
            have HVL : Hid _ := hvl
            clear hvl
            go_enter Tryd.func77, Tryd.ntmps77
            go_wp2_with (first | (go_at_call 72; refine (scan_ok (name_s h0 ⟨hT.1, by omega⟩) HN.out).mono ?_; rintro e w1 ⟨rfl, hg1, hi1⟩; have hA1 := Bk.kept hA0 (by decide) h0.ps hg1; have hR1 := Bk.kept hR0 (by decide) h0.ps hg1; have cA := Bk.cell (i := 0) hA1; have fA := Bk.froz (i := 0) hA1; simp only [cA0] at cA; have hi2 := hi1.below (set_below (i := 0) (X := w.heap.size + 1) (Nat.le_succ _) (Value.string (sb nm))) hPB hgb; have hA2 : (w1.setCell ⟨w.heap.size + 1, 0, none⟩ (Value.string (sb nm))).heap[w.heap.size + 1]? = some (.cells #[.string (sb nm), .string ⟨#[]⟩, .int .i64 k] 37 (0, 0)) := Bk.set (i := 0) hA1 (Value.string (sb nm)); have hAR1 := hAR0.kept' h0.ps hg1; have hAR2 := own_set (i := 0) hAR1 hsvA (Value.string (sb nm)); have hR2 := (Below.heap_setCell w1 ⟨w.heap.size + 1, 0, none⟩ (Value.string (sb nm)) w.heap.size (by simp)).trans hR1; have hsz1 : w.heap.size ≤ (w1.setCell ⟨w.heap.size + 1, 0, none⟩ (Value.string (sb nm))).heap.size := (by have e1 := hg0.size; have e2 := hg1.size; simp only [World.setCell, Array.size_modify]; omega); have HA2 : Hid _ := hA2; have HR2 : Hid _ := hR2; have HAR2 : Hid _ := hAR2; clear hA1 hR1 hA2 hR2 hAR1 hAR2) | (go_at_call 40; refine (peek_t hi2 hok1).mono ?_; rintro e w' ⟨rfl, m, rfl⟩) | (go_at_call 89; refine (contains_any (w := (w1.setCell ⟨w.heap.size + 1, 0, none⟩ (Value.string (sb nm))).drewN m) (A := w.heap.size + 1) (nm := nm) (l := ahead) (B := B) (Bk.cell (i := 0) HA2.out) hnm hok HAR2.out hal).mono ?_; rw [HANY.out]; rintro e w3 ⟨rfl, hb3⟩; have hi3 := (hi2.drewN m).below (hb3.mono hsz1) hPB hgb; have hA3 := Bk.belowd HA2.out hb3; have hR3 := Bk.belowd HR2.out hb3; have a23 := Bk.cell (i := 2) hA3; have HA3 : Hid _ := hA3; have HR3 : Hid _ := hR3; clear hA3 hR3; have hgw3 : w.grownBy w3 (some P) := grown_below (grown_below (grownBy_trans hg0 hg1) (below_drewN (set_below (Nat.le_succ _) _) m) (Nat.le_refl _)) (hb3.mono hsz1) (Nat.le_refl _)) | (go_at_call 70; refine (scan_ok (eq_s hi3) HEQ.out).mono ?_; rintro e w4 ⟨rfl, hg4, hi4⟩; have hA4 := Bk.kept HA3.out (by decide) hi3.ps hg4; have hR4 := Bk.kept HR3.out (by decide) hi3.ps hg4; have HA4 : Hid _ := hA4; have HR4 : Hid _ := hR4; clear hA4 hR4) | (go_at_call 91; refine (scan_ok (value_s hi4 hT) HVL.out).mono ?_; rintro e w5 ⟨rfl, hg5, hi5⟩; have hA5 := Bk.kept HA4.out (by decide) hi4.ps hg5; have hR5 := Bk.kept HR4.out (by decide) hi4.ps hg5; have a0 : w5.cell? ⟨w.heap.size + 1, 0, none⟩ = some (.string (sb nm)) := Bk.cell hA5; have a1 : w5.cell? ⟨w.heap.size + 1, 1, none⟩ = some (.string ⟨#[]⟩) := Bk.cell hA5; have a2 : w5.cell? ⟨w.heap.size + 1, 2, none⟩ = some (.int .i64 k) := Bk.cell hA5; have fa := Bk.froz (i := 1) hA5; have r0 : w5.cell? ⟨w.heap.size, 0, none⟩ = some (.string ⟨#[]⟩) := Bk.cell hR5; have r1 : w5.cell? ⟨w.heap.size, 1, none⟩ = some (.string ⟨#[]⟩) := Bk.cell hR5; have r2 : w5.cell? ⟨w.heap.size, 2, none⟩ = some (.int .i64 0) := Bk.cell hR5; have fr0 := Bk.froz (i := 0) hR5; have fr1 := Bk.froz (i := 1) hR5; have fr2 := Bk.froz (i := 2) hR5; clear hA5 hR5))
            refine bodyPost_ret (v := atRet ⟨nm, vv, k⟩) (by simp [results, Tryd.results77, go_sem, atRet, r0, r1, r2]) rfl ⟨rfl, grown_below (grownBy_trans hgw3 (grownBy_trans hg4 hg5)) ?_ (Nat.le_refl _), In.below hi5 ?_ hPB hgb⟩
            all_goals repeat (first | exact Below.refl _ _ | refine Below.setCell ?_ (by simp) _)
          · rw [bind_bad]
            have HVL : Hid _ := hvl
            clear hvl
            go_enter Tryd.func77, Tryd.ntmps77
            go_wp2_with (first | (go_at_call 72; refine (scan_ok (name_s h0 ⟨hT.1, by omega⟩) HN.out).mono ?_; rintro e w1 ⟨rfl, hg1, hi1⟩; have hA1 := Bk.kept hA0 (by decide) h0.ps hg1; have hR1 := Bk.kept hR0 (by decide) h0.ps hg1; have cA := Bk.cell (i := 0) hA1; have fA := Bk.froz (i := 0) hA1; simp only [cA0] at cA; have hi2 := hi1.below (set_below (i := 0) (X := w.heap.size + 1) (Nat.le_succ _) (Value.string (sb nm))) hPB hgb; have hA2 : (w1.setCell ⟨w.heap.size + 1, 0, none⟩ (Value.string (sb nm))).heap[w.heap.size + 1]? = some (.cells #[.string (sb nm), .string ⟨#[]⟩, .int .i64 k] 37 (0, 0)) := Bk.set (i := 0) hA1 (Value.string (sb nm)); have hAR1 := hAR0.kept' h0.ps hg1; have hAR2 := own_set (i := 0) hAR1 hsvA (Value.string (sb nm)); have hR2 := (Below.heap_setCell w1 ⟨w.heap.size + 1, 0, none⟩ (Value.string (sb nm)) w.heap.size (by simp)).trans hR1; have hsz1 : w.heap.size ≤ (w1.setCell ⟨w.heap.size + 1, 0, none⟩ (Value.string (sb nm))).heap.size := (by have e1 := hg0.size; have e2 := hg1.size; simp only [World.setCell, Array.size_modify]; omega); have HA2 : Hid _ := hA2; have HR2 : Hid _ := hR2; have HAR2 : Hid _ := hAR2; clear hA1 hR1 hA2 hR2 hAR1 hAR2) | (go_at_call 40; refine (peek_t hi2 hok1).mono ?_; rintro e w' ⟨rfl, m, rfl⟩) | (go_at_call 89; refine (contains_any (w := (w1.setCell ⟨w.heap.size + 1, 0, none⟩ (Value.string (sb nm))).drewN m) (A := w.heap.size + 1) (nm := nm) (l := ahead) (B := B) (Bk.cell (i := 0) HA2.out) hnm hok HAR2.out hal).mono ?_; rw [HANY.out]; rintro e w3 ⟨rfl, hb3⟩; have hi3 := (hi2.drewN m).below (hb3.mono hsz1) hPB hgb; have hA3 := Bk.belowd HA2.out hb3; have hR3 := Bk.belowd HR2.out hb3; have a23 := Bk.cell (i := 2) hA3; have HA3 : Hid _ := hA3; have HR3 : Hid _ := hR3; clear hA3 hR3; have hgw3 : w.grownBy w3 (some P) := grown_below (grown_below (grownBy_trans hg0 hg1) (below_drewN (set_below (Nat.le_succ _) _) m) (Nat.le_refl _)) (hb3.mono hsz1) (Nat.le_refl _)) | (go_at_call 70; refine (scan_ok (eq_s hi3) HEQ.out).mono ?_; rintro e w4 ⟨rfl, hg4, hi4⟩; have hA4 := Bk.kept HA3.out (by decide) hi3.ps hg4; have hR4 := Bk.kept HR3.out (by decide) hi3.ps hg4; have HA4 : Hid _ := hA4; have HR4 : Hid _ := hR4; clear hA4 hR4) | (go_at_call 91; refine (scan_bad (value_s hi4 hT) HVL.out).mono ?_; rintro e w5 ⟨rfl, hg5, kk, hp⟩))
            exact ⟨rfl, rfl, grownBy_trans hgw3 (grownBy_trans hg4 hg5), kk, hp⟩
        · rw [bind_bad]
          have HEQ : Hid _ := heq
          clear heq
          go_enter Tryd.func77, Tryd.ntmps77
          go_wp2_with (first | (go_at_call 72; refine (scan_ok (name_s h0 ⟨hT.1, by omega⟩) HN.out).mono ?_; rintro e w1 ⟨rfl, hg1, hi1⟩; have hA1 := Bk.kept hA0 (by decide) h0.ps hg1; have hR1 := Bk.kept hR0 (by decide) h0.ps hg1; have cA := Bk.cell (i := 0) hA1; have fA := Bk.froz (i := 0) hA1; simp only [cA0] at cA; have hi2 := hi1.below (set_below (i := 0) (X := w.heap.size + 1) (Nat.le_succ _) (Value.string (sb nm))) hPB hgb; have hA2 : (w1.setCell ⟨w.heap.size + 1, 0, none⟩ (Value.string (sb nm))).heap[w.heap.size + 1]? = some (.cells #[.string (sb nm), .string ⟨#[]⟩, .int .i64 k] 37 (0, 0)) := Bk.set (i := 0) hA1 (Value.string (sb nm)); have hAR1 := hAR0.kept' h0.ps hg1; have hAR2 := own_set (i := 0) hAR1 hsvA (Value.string (sb nm)); have hR2 := (Below.heap_setCell w1 ⟨w.heap.size + 1, 0, none⟩ (Value.string (sb nm)) w.heap.size (by simp)).trans hR1; have hsz1 : w.heap.size ≤ (w1.setCell ⟨w.heap.size + 1, 0, none⟩ (Value.string (sb nm))).heap.size := (by have e1 := hg0.size; have e2 := hg1.size; simp only [World.setCell, Array.size_modify]; omega); have HA2 : Hid _ := hA2; have HR2 : Hid _ := hR2; have HAR2 : Hid _ := hAR2; clear hA1 hR1 hA2 hR2 hAR1 hAR2) | (go_at_call 40; refine (peek_t hi2 hok1).mono ?_; rintro e w' ⟨rfl, m, rfl⟩) | (go_at_call 89; refine (contains_any (w := (w1.setCell ⟨w.heap.size + 1, 0, none⟩ (Value.string (sb nm))).drewN m) (A := w.heap.size + 1) (nm := nm) (l := ahead) (B := B) (Bk.cell (i := 0) HA2.out) hnm hok HAR2.out hal).mono ?_; rw [HANY.out]; rintro e w3 ⟨rfl, hb3⟩; have hi3 := (hi2.drewN m).below (hb3.mono hsz1) hPB hgb; have hA3 := Bk.belowd HA2.out hb3; have hR3 := Bk.belowd HR2.out hb3; have a23 := Bk.cell (i := 2) hA3; have HA3 : Hid _ := hA3; have HR3 : Hid _ := hR3; clear hA3 hR3; have hgw3 : w.grownBy w3 (some P) := grown_below (grown_below (grownBy_trans hg0 hg1) (below_drewN (set_below (Nat.le_succ _) _) m) (Nat.le_refl _)) (hb3.mono hsz1) (Nat.le_refl _)) | (go_at_call 70; refine (scan_bad (eq_s hi3) HEQ.out).mono ?_; rintro e w4 ⟨rfl, hg4, kk, hp⟩))
          exact ⟨rfl, rfl, grownBy_trans hgw3 hg4, kk, hp⟩
      · rw [if_pos rfl]
        have HANY : Hid ((ahead.any fun a => a.name == nm) = true) := hany
        clear hany
        go_enter Tryd.func77, Tryd.ntmps77
        go_wp2_with (first | (go_at_call 72; refine (scan_ok (name_s h0 ⟨hT.1, by omega⟩) HN.out).mono ?_; rintro e w1 ⟨rfl, hg1, hi1⟩; have hA1 := Bk.kept hA0 (by decide) h0.ps hg1; have hR1 := Bk.kept hR0 (by decide) h0.ps hg1; have cA := Bk.cell (i := 0) hA1; have fA := Bk.froz (i := 0) hA1; simp only [cA0] at cA; have hi2 := hi1.below (set_below (i := 0) (X := w.heap.size + 1) (Nat.le_succ _) (Value.string (sb nm))) hPB hgb; have hA2 : (w1.setCell ⟨w.heap.size + 1, 0, none⟩ (Value.string (sb nm))).heap[w.heap.size + 1]? = some (.cells #[.string (sb nm), .string ⟨#[]⟩, .int .i64 k] 37 (0, 0)) := Bk.set (i := 0) hA1 (Value.string (sb nm)); have hAR1 := hAR0.kept' h0.ps hg1; have hAR2 := own_set (i := 0) hAR1 hsvA (Value.string (sb nm)); have hR2 := (Below.heap_setCell w1 ⟨w.heap.size + 1, 0, none⟩ (Value.string (sb nm)) w.heap.size (by simp)).trans hR1; have hsz1 : w.heap.size ≤ (w1.setCell ⟨w.heap.size + 1, 0, none⟩ (Value.string (sb nm))).heap.size := (by have e1 := hg0.size; have e2 := hg1.size; simp only [World.setCell, Array.size_modify]; omega); have HA2 : Hid _ := hA2; have HR2 : Hid _ := hR2; have HAR2 : Hid _ := hAR2; clear hA1 hR1 hA2 hR2 hAR1 hAR2) | (go_at_call 40; refine (peek_t hi2 hok1).mono ?_; rintro e w' ⟨rfl, m, rfl⟩) | (go_at_call 89; refine (contains_any (w := (w1.setCell ⟨w.heap.size + 1, 0, none⟩ (Value.string (sb nm))).drewN m) (A := w.heap.size + 1) (nm := nm) (l := ahead) (B := B) (Bk.cell (i := 0) HA2.out) hnm hok HAR2.out hal).mono ?_; rw [HANY.out]; rintro e w3 ⟨rfl, hb3⟩; have hi3 := (hi2.drewN m).below (hb3.mono hsz1) hPB hgb; have hA3 := Bk.belowd HA2.out hb3; have hR3 := Bk.belowd HR2.out hb3; have a23 := Bk.cell (i := 2) hA3; have HA3 : Hid _ := hA3; have HR3 : Hid _ := hR3; clear hA3 hR3; have hgw3 : w.grownBy w3 (some P) := grown_below (grown_below (grownBy_trans hg0 hg1) (below_drewN (set_below (Nat.le_succ _) _) m) (Nat.le_refl _)) (hb3.mono hsz1) (Nat.le_refl _)) | (go_at_call 47; refine (fail_any _ _ _).mono ?_; rintro e w' ⟨rfl, rfl⟩))
        exact ⟨rfl, rfl, hgw3, _, hi3.ps⟩
  · rw [bind_bad]
    go_enter Tryd.func77, Tryd.ntmps77
    go_wp2_with (first | (go_at_call 72; refine (scan_bad (name_s h0 ⟨hT.1, by omega⟩) hn).mono ?_; rintro e w1 ⟨rfl, hg1, kk, hp⟩))
    exact ⟨rfl, rfl, grownBy_trans hg0 hg1, kk, hp⟩
end Go.Proofs.YtjcgnbmpnaapdaaDoor
namespace Go.Proofs.YtjcgnbmpnaapdaaDoor
open Go.RowKit
set_option linter.unusedVariables false

abbrev nmCells (l : List Bs) : List Value := l.map fun s => .string (sb s)
/-- A row of names of its own. -/
abbrev NR (B : Nat) (w : World) (v : Value) (l : List Bs) : Prop := w.ownsRow B 9 1 v l.length (nmCells l)
theorem info9 : (Tryd.prog.info? 9).map (fun i => (i.zero, i.size, i.bytes)) = some (some (.string ⟨#[]⟩), 1, 16) := by kernel_rfl
theorem info9p : ∃ i, Tryd.prog.info? 9 = some i ∧ i.zero = some (.string ⟨#[]⟩) ∧ i.size = 1 ∧ i.bytes = 16 := by
  have := info9
  cases h : Tryd.prog.info? 9 with
  | none => rw [h] at this; simp at this
  | some i => rw [h] at this; simp at this; exact ⟨i, rfl, this.1, this.2.1, this.2.2⟩

set_option maxRecDepth 20000 in
set_option maxHeartbeats 800000 in
theorem push_any {B O f : Nat} {ov : Value} {nm : Bs} {ns : List Bs} {w : World} (hc : w.cell? ⟨O, f, none⟩ = some ov) (hf : w.frozen? ⟨O, f, none⟩ = false) (hown : NR B w ov ns) (hB : B ≤ w.heap.size) (hl : ns.length ≤ 65536) (hO : ov.ownBlock ≠ some O) :
    Calls Tryd.prog 75 #[.pointer (some ⟨O, f, none⟩), .string (sb nm)] w fun e w' => e = .returned (.tuple #[]) ∧ ∃ ov' w3, w.grownBy w3 ov.ownBlock ∧ NR B w3 ov' (ns ++ [nm]) ∧ ov' ≠ .slice none 0 0 ∧ (∀ k, ov'.ownBlock = some k → ov.ownBlock = some k ∨ w.heap.size ≤ k) ∧ w' = w3.setCell ⟨O, f, none⟩ ov' := by
  obtain ⟨i0, hi, hz0, hz1, hz2⟩ := info9p
  have hlt : O < w.heap.size := World.block_lt_of_cell? w _ hc
  have HO : Hid _ := hown
  have HL : Hid _ := hlt
  clear hown hlt
  go_enter Tryd.func75, Tryd.ntmps75
  go_wp2_with (first | (at_builtin; refine wpList_append_lies _ rfl (.tmp 7) (.tmp 9) 75 rfl B 9 i0 (.string ⟨#[]⟩) 1 16 Tryd.underlying75 hi hz0 hz1 hz2 rfl (by decide) ov ns.length (nmCells ns) rfl (World.ownsRow.alloc HO.out _) ⟨w.heap.size, 0, none⟩ 1 1 [.string (sb nm)] rfl rfl (cell_one_new _ _ _) (by intro u hu; simp at hu; subst hu; rfl) (by decide) (by unfold maxLen; omega) (by omega) (by simp; omega) _ rfl ?_; intro g cap w3 hown3 hg3 hat hlt3; have hg3' := grownBy_trans (World.grownBy_alloc w (.cells #[.string (sb nm)] 9) _) hg3; have hc3 := far_cell hg3' hc hO; have hf3 := far_froz hg3' hc hf hO; have HW3 : Hid _ := hown3; clear hown3))
  go_end0
  exact ⟨rfl, _, w3, hg3', by show World.ownsRow _ _ _ _ _ _ _; rw [nmCells, List.map_append, List.length_append]; exact HW3.out, by simp, (by intro k hk; simp [Value.ownBlock] at hk; subst hk; rcases hat with e | e; exact .inl e; exact .inr (by rw [e]; simp)), rfl⟩

theorem NR.form {B : Nat} {w : World} {v : Value} {l : List Bs} (h : NR B w v l) (hl : 0 < l.length) : ∃ g cap, v = .slice (some ⟨g, 0, none⟩) l.length cap ∧ l.length ≤ cap ∧ cap ≤ maxLen ∧ g < w.heap.size ∧
    w.cell? ⟨g, l.length - 1, none⟩ = some (.string (sb (l.getLastD []))) := by
  rcases h.2 with ⟨rfl, h0⟩ | ⟨g, cap, cur, rfl, hbg, hg, hnc, hcm, hcs, htake⟩
  · omega
  · refine ⟨g, cap, rfl, hnc, hcm, (Array.getElem?_eq_some_iff.1 hg).1, ?_⟩
    have hx : (nmCells l)[l.length - 1]? = some (.string (sb (l.getLastD []))) := by
      rw [List.getElem?_map]
      cases l with
      | nil => simp at hl
      | cons a t =>
        rw [← List.getLast?_eq_getElem?]
        simp [List.getLast?_cons]
    have := World.ownsRow.cells h (g := g) rfl (l.length - 1) _ hx
    rw [addr_add, Nat.zero_add] at this
    exact this
theorem top_any {B : Nat} {v : Value} {l : List Bs} {w : World} (h : NR B w v l) (hl : 0 < l.length) (hm : l.length ≤ 65536) : Calls Tryd.prog 80 #[v] w fun e w' => e = .returned (.string (sb (l.getLastD []))) ∧ w' = w := by
  obtain ⟨g, cap, rfl, hc, hm2, hg, hcell⟩ := NR.form h hl
  have e : ((l.length - 1 : Nat) : Int) = (l.length : Int) - 1 := by omega
  unfold maxLen at hm2
  generalize l.getLastD [] = x at *
  have HH : Hid _ := h
  clear h
  go_enter Tryd.func80, Tryd.ntmps80
  go_wp2
  go_ret
  exact ⟨rfl, rfl⟩

theorem NR.pop {B : Nat} {w : World} {g cap : Nat} {l : List Bs} (h : NR B w (.slice (some ⟨g, 0, none⟩) l.length cap) l) (hl : 0 < l.length) : NR B w (.slice (some ⟨g, 0, none⟩) (l.length - 1) cap) l.dropLast := by
  refine ⟨by simp, .inr ?_⟩
  rcases h.2 with ⟨h0, _⟩ | ⟨g', cap', cur, he, hbg, hg, hnc, hcm, hcs, htake⟩
  · cases h0
  · simp at he
    obtain ⟨rfl, rfl⟩ := he
    refine ⟨g, cap, cur, by simp, hbg, hg, by simp; omega, hcm, hcs, ?_⟩
    have e : nmCells l.dropLast = (nmCells l).take (l.length - 1) := by
      rw [List.dropLast_eq_take, nmCells, nmCells, List.map_take]
    rw [e, ← htake, List.take_take]
    congr 1
    simp
set_option maxHeartbeats 800000 in
theorem pop_any {B O f : Nat} {v : Value} {l : List Bs} {w : World} (hc : w.cell? ⟨O, f, none⟩ = some v) (hf : w.frozen? ⟨O, f, none⟩ = false) (h : NR B w v l) (hl : 0 < l.length) (hm : l.length ≤ 65536) :
    Calls Tryd.prog 82 #[.pointer (some ⟨O, f, none⟩)] w fun e w' => e = .returned (.tuple #[]) ∧ ∃ v' m, NR B w v' l.dropLast ∧ v'.ownBlock = v.ownBlock ∧ w' = (w.drewN m).setCell ⟨O, f, none⟩ v' := by
  obtain ⟨g, cap, rfl, hcc, hm2, hg, hcell⟩ := NR.form h hl
  have hp := NR.pop h hl
  have e : ((l.length - 1 : Nat) : Int) = (l.length : Int) - 1 := by omega
  unfold maxLen at hm2
  have HH : Hid _ := h
  have HP : Hid _ := hp
  clear h hp hcell
  go_enter Tryd.func82, Tryd.ntmps82
  go_wp2
  go_region
  go_wp2
  go_end0
  exact ⟨rfl, _, 1, HP.out, rfl, rfl⟩
end Go.Proofs.YtjcgnbmpnaapdaaDoor
