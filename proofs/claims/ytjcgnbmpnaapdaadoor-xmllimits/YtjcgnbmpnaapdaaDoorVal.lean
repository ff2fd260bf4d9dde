/- The contract of value: an attribute's value. -/
import Derived.Test.YtjcgnbmpnaapdaaDoorPut
import Derived.Test.YtjcgnbmpnaapdaaDoorPure1
namespace Go.Proofs.YtjcgnbmpnaapdaaDoor
open Go.RowKit
set_option linter.unusedVariables false

/-- A run in a block of its own: where it began, what came out. -/
structure VR (B V : Nat) (at0 : Int) (out : Bs) (w : World) : Prop where
  ex : ∃ ov, w.heap[V]? = some (.cells #[.bool false, .int .i64 at0, ov] 77 (0, 0)) ∧ OR B w ov out
  bd : ∀ i, 0 ≤ out.getD i 0 ∧ out.getD i 0 < 256
  lo : B ≤ V
  sz : B ≤ w.heap.size
theorem VR.kept {B V P : Nat} {at0 : Int} {out : Bs} {w w' : World} {v : PV} (h : VR B V at0 out w) (hp : PS w P v) (hg : w.grownBy w' (some P)) : VR B V at0 out w' := by
  obtain ⟨ov, h1, h2⟩ := h.ex
  refine ⟨⟨ov, ?_, h2.kept hg (own_ne81 hp h2 (by decide))⟩, h.bd, h.lo, Nat.le_trans h.sz hg.size⟩
  rw [hg.block V (Array.getElem?_eq_some_iff.1 h1).1]
  · exact h1
  · intro e
    cases e
    unfold PS at hp
    rw [h1] at hp
    simp at hp
theorem VR.drewN {B V : Nat} {at0 : Int} {out : Bs} {w : World} (h : VR B V at0 out w) (n : Nat) : VR B V at0 out (w.drewN n) := ⟨h.ex, h.bd, h.lo, h.sz⟩
theorem In.below {P k B : Nat} {w w' : World} {v : PV} {l : Bs} (h : In P w v l k) (hb : Below B w w') (hP : P < B) (hgb : ∀ g, v.b.ownBlock = some g → g < B) : In P w' v l k := by
  refine ⟨(hb.block P hP).trans h.ps, ⟨⟨h.br.1.1, ?_⟩, h.br.2⟩, h.ke, h.kl, h.ll⟩
  rcases h.br.1.2 with hn | ⟨g, cap, cur, hv, h0, hg, rest⟩
  · exact .inl hn
  · refine .inr ⟨g, cap, cur, hv, h0, ?_, rest⟩
    rw [hb.block g (hgb g (by rw [hv]; rfl))]
    exact hg
theorem app_bd {a b : Bs} (ha : ∀ i, 0 ≤ a.getD i 0 ∧ a.getD i 0 < 256) (hb : ∀ i, 0 ≤ b.getD i 0 ∧ b.getD i 0 < 256) : ∀ i, 0 ≤ (a ++ b).getD i 0 ∧ (a ++ b).getD i 0 < 256 := by
  intro i
  rcases Nat.lt_or_ge i a.length with h | h
  · have := ha i
    simp [List.getD_eq_getElem?_getD, List.getElem?_append_left h] at this ⊢
    exact this
  · have := hb (i - a.length)
    simp [List.getD_eq_getElem?_getD, List.getElem?_append_right h] at this ⊢
    exact this
theorem grown_below {w w1 w2 : World} {B P : Nat} (h : w.grownBy w1 (some P)) (hb : Below B w1 w2) (hB : w.heap.size ≤ B) : w.grownBy w2 (some P) :=
  ⟨hb.os.trans h.os, hb.tape.trans h.tape, hb.output.trans h.output, Nat.le_trans h.size hb.size, fun k hk hne => (hb.block k (by omega)).trans (h.block k hk hne)⟩

theorem put_v {P k B V : Nat} {at0 r : Int} {out : Bs} {v : PV} {l : Bs} {w : World} (h : In P w v l k) (hv : VR B V at0 out w) (hP : P < B) (hl : out.length ≤ 65536) (hr : isChar r = true) :
    Calls Tryd.prog 44 #[pp P, .pointer (some ⟨V, 0, none⟩), .int .i32 r] w fun e w' => e = putE v.t at0 out r ∧ Below B w w' ∧ VR B V at0 (out ++ enc r) w' := by
  obtain ⟨ov, h1, h2⟩ := hv.ex
  have hV : V < w.heap.size := (Array.getElem?_eq_some_iff.1 h1).1
  have hne : ov.ownBlock ≠ some V := by
    rcases h2.2 with ⟨rfl, _⟩ | ⟨g, cap, cur, rfl, _, hg, _⟩
    · simp [Value.ownBlock]
    · intro e
      simp [Value.ownBlock] at e
      subst e
      rw [h1] at hg
      simp at hg
  have hneP : ov.ownBlock ≠ some P := by
    rcases own_ne81 h.ps h2 (by decide) with e | e
    · rw [e]; simp
    · exact e
  have hc : w.cell? ⟨V, 0 + 2, none⟩ = some ov := by simp [World.cell?, h1]
  have hf : w.frozen? ⟨V, 0 + 2, none⟩ = false := by simp [World.frozen?, h1]
  have ha : w.cell? ⟨V, 0 + 1, none⟩ = some (.int .i64 at0) := by simp [World.cell?, h1]
  refine (put_any (P := P) (T := v.t) (at0 := at0) (r := r) hc hf ha (h.ps.cell 6) h2 hv.sz hl hne hneP hr ?_).mono ?_
  · rintro ⟨_, e⟩; simp at e
  · rintro e w' ⟨rfl, ov', w3, m, hg3, ho3, hnn, hnb, rfl⟩
    have hV3 : w3.heap[V]? = some (.cells #[.bool false, .int .i64 at0, ov] 77 (0, 0)) := (hg3.block V hV (fun e => hne e.symm)).trans h1
    have hne' : ov'.ownBlock ≠ some V := by
      rcases ho3.2 with ⟨rfl, _⟩ | ⟨g, cap, cur, rfl, _, hg, _⟩
      · simp [Value.ownBlock]
      · intro e
        simp [Value.ownBlock] at e
        subst e
        rw [hV3] at hg
        simp at hg
    refine ⟨rfl, ?_, ⟨⟨ov', ?_, ?_⟩, app_bd hv.bd (enc_bd r), hv.lo, Nat.le_trans hv.sz (Nat.le_trans hg3.size (by simp [World.setCell]))⟩⟩
    · have hb3 : Below B w w3 := (Below.refl B w).grown hg3 hv.sz (fun k hk => (h2.lt k hk).1)
      have hb4 := hb3.setCell (p := ⟨V, 0 + 2, none⟩) hv.lo ov'
      exact ⟨hb4.os, hb4.tape, hb4.output, hb4.size, hb4.block⟩
    · show (w3.setCell ⟨V, 0 + 2, none⟩ ov').heap[V]? = _
      simp only [World.setCell, Array.getElem?_modify]
      rw [if_pos trivial, hV3]
      simp
    · show (w3.setCell ⟨V, 0 + 2, none⟩ ov').ownsRow B 5 1 ov' _ _
      exact ho3.kept (grownBy_set w3 V _ _) (.inr hne')

theorem In.gb {P k : Nat} {w : World} {v : PV} {l : Bs} (h : In P w v l k) : ∀ g, v.b.ownBlock = some g → g < w.heap.size := fun g hg => (h.br.1.lt g hg).2

theorem own_base {w : World} {base base' : Nat} {e : TypeId} {size : Nat} {v : Value} {n : Nat} {xs : List Value} (h : w.ownsRow base e size v n xs) (hb : base' ≤ base) : w.ownsRow base' e size v n xs := by
  refine ⟨h.1, ?_⟩
  rcases h.2 with h2 | ⟨g, cap, cur, hv, h0, r⟩
  · exact .inl h2
  · exact .inr ⟨g, cap, cur, hv, Nat.le_trans hb h0, r⟩
theorem conv_row {w : World} {ov : Value} {out : Bs} (h : BR w ov out) : (convert 25 9 ov).run Tryd.prog w = .ok (.string (sb out)) w := by
  rcases h.form with ⟨rfl, rfl⟩ | ⟨g, cap, rfl, _, _, hb⟩
  · exact conv_nil w
  · exact conv_bts _ cap out w hb (fun e => by cases e)
set_option maxHeartbeats 3200000 in
theorem value_s {P k : Nat} {v : PV} {l : Bs} {w : World} (h : In P w v l k) (hT : 0 ≤ v.t ∧ v.t ≤ 4096) : Calls Tryd.prog 91 #[pp P] w (Scan P w v l (fun s => .string (sb s)) (valueS l v.t k)) := by
  have c1 := h.rd
  have hPB : P < w.heap.size := h.ps.lt
  have hgb := h.gb
  have hT1 := hT.1
  have hT2 := hT.2
  have h0 := h.alloc (.cells #[.bool false, .int .i64 k, .slice none 0 0] 77)
  have hv0 : VR w.heap.size w.heap.size k [] (w.alloc (.cells #[.bool false, .int .i64 k, .slice none 0 0] 77)) :=
    ⟨⟨_, heap_alloc_new w _, World.ownsRow_nil _ _ _ _⟩, bd_nil, Nat.le_refl _, by simp⟩
  have hg0 : w.grownBy (w.alloc (.cells #[.bool false, .int .i64 k, .slice none 0 0] 77)) (some P) := World.grownBy_alloc _ _ _
  rw [valueS]
  rcases hq : quoteS l k with ⟨q, k1⟩ | ⟨p, er⟩
  · rw [bind_ok]
    go_enter Tryd.func91, Tryd.ntmps91
    go_wp2_with (go_at_call 71; refine (scan_ok (quote_s h0) hq).mono ?_; rintro e w1 ⟨rfl, hg1, hi1⟩)
    have hv1 := hv0.kept h0.ps hg1
    go_loopg [] (l.length + 1) (fun n wr => ∃ (j : Nat) (out : Bs), w.grownBy wr (some P) ∧ In P wr { v with k := (j : Int) } l j ∧ VR w.heap.size w.heap.size k out wr ∧ (out.length : Int) ≤ v.t ∧ l.length - j + 1 ≤ n ∧ Hid (valL n l v.t k q out j = valL (l.length + 1) l v.t k q [] k1))
    case atStart => exact ⟨k1, [], grownBy_trans hg0 hg1, hi1, hv1, by simp; omega, by omega, rfl⟩
    case round =>
      obtain ⟨j, out, hg, hi, hv, hlo, hn, HF⟩ := hrel
      obtain ⟨n, rfl⟩ : ∃ n, gk = n + 1 := ⟨gk - 1, by omega⟩
      have d1 := hi.rd
      have hjl := hi.kl
      have hgA : ∀ w', wr.grownBy w' (some P) → w.grownBy w' (some P) := fun w' hx => grownBy_trans hg hx
      have hvr2 : ∀ w', wr.grownBy w' (some P) → VR w.heap.size w.heap.size k out w' := fun w' hx => hv.kept hi.ps hx
      clear hg1 hi1 hv1 h0 hv0 hg0 hq
      cases hok : okl l j
      · have HR : Hid (valL (l.length + 1) l v.t k q [] k1 = .bad j 2) := by
          rw [← HF.out, valL, peekS_f hok]; exact rfl
        go_wp2_with (first | (go_at_call 40; refine (peek_f hi hok).mono ?_; rintro e w' ⟨rfl, m, rfl⟩))
        refine ⟨rfl, ?_⟩
        rw [HR.out]
        exact ⟨rfl, hgA _ (gd _), _, hi.ps⟩
      · have hpos := ln_pos hok
        by_cases hrq : lt l j = q
        · have HR : Hid (valL (l.length + 1) l v.t k q [] k1 = .ok out (j + ln l j)) := by
            rw [← HF.out, valL, peekS_t hok, bind_ok, if_pos hrq]; exact rfl
          have hrqb : (lt l j == q) = true := by simp [hrq]
          clear hrq
          go_wp2_with (first | (go_at_call 40; refine (peek_t hi hok).mono ?_; rintro e w' ⟨rfl, m, rfl⟩) | (go_at_call 41; refine (take_t (hi.drewN _) hok).mono ?_; rintro e w3 ⟨rfl, hg3, hi3⟩; obtain ⟨ov, hV3, hO3⟩ := (hvr2 _ (grownBy_trans (gd _) hg3)).ex; have hcell : w3.cell? ⟨w.heap.size, 2, none⟩ = some ov := (by simp [World.cell?, hV3]); have hcv := conv_row ⟨own_base hO3 (Nat.zero_le _), hv.bd⟩; have HV3 : Hid _ := hV3; have HO3 : Hid _ := hO3; clear hV3 hO3))
          go_ret
          rw [HR.out]
          exact ⟨rfl, hgA _ (grownBy_trans (gd _) hg3), hi3⟩
        · have hrqb : (lt l j == q) = false := by simp [hrq]
          by_cases h60 : lt l j = 60
          · have HR : Hid (valL (l.length + 1) l v.t k q [] k1 = .bad j 2) := by
              rw [← HF.out, valL, peekS_t hok, bind_ok, if_neg hrq, if_pos h60]; exact rfl
            clear hrq
            go_wp2_with (first | (go_at_call 40; refine (peek_t hi hok).mono ?_; rintro e w' ⟨rfl, m, rfl⟩) | (go_at_call 47; refine (fail_any _ _ _).mono ?_; rintro e w' ⟨rfl, rfl⟩))
            refine ⟨rfl, ?_⟩
            rw [HR.out]
            exact ⟨rfl, hgA _ (gd _), _, hi.ps⟩
          · have h60b : (lt l j == 60) = false := by simp [h60]
            by_cases h38 : lt l j = 38
            · have h38b : (lt l j == 38) = true := by simp [h38]
              rcases hrf : refS l j with ⟨c, k2⟩ | ⟨p, er⟩
              · have HRF : Hid (refS l j = .ok c k2) := hrf
                obtain ⟨hcr, hk2⟩ := refS_ok hrf
                clear hrf
                have hcc : isChar (c) = true := hcr
                by_cases hbig : v.t < ((out ++ enc (c)).length : Int)
                · have HP : Hid (putE v.t (k : Int) out (c) = .panicked (flt k 3)) := by unfold putE; rw [if_pos hbig]; exact rfl
                  have HR : Hid (valL (l.length + 1) l v.t k q [] k1 = .bad k 3) := by
                    rw [← HF.out, valL, peekS_t hok, bind_ok]
                    rw [if_neg hrq, if_neg h60, if_pos h38, HRF.out, bind_ok]
                    rw [putS, if_pos hbig]
                    exact rfl
                  clear hrq h60 h38
                  go_wp2_with (first | (go_at_call 40; refine (peek_t hi hok).mono ?_; rintro e w' ⟨rfl, m, rfl⟩) | (go_at_call 45; refine (scan_ok (ref_s (hi.drewN _)) HRF.out).mono ?_; rintro e w3 ⟨rfl, hg3, hi3⟩) | (go_at_call 44; refine (put_v hi3 (hvr2 _ (grownBy_trans (gd _) hg3)) hPB (by omega) hcc).mono ?_; rw [HP.out]; rintro e w4 ⟨rfl, hb4, hv4⟩))
                  refine ⟨rfl, ?_⟩
                  rw [HR.out]
                  exact ⟨rfl, grown_below (hgA _ (grownBy_trans (gd _) hg3)) hb4 (Nat.le_refl _), _, ((hi3).below hb4 hPB hgb).ps⟩
                · have HP : Hid (putE v.t (k : Int) out (c) = .returned (.tuple #[])) := by unfold putE; rw [if_neg hbig]; exact rfl
                  have HS : Hid (valL n l v.t k q (out ++ enc (c)) (k2) = valL (l.length + 1) l v.t k q [] k1) := by
                    rw [← HF.out, valL, peekS_t hok, bind_ok]
                    rw [if_neg hrq, if_neg h60, if_pos h38, HRF.out, bind_ok]
                    rw [putS, if_neg hbig]
                    exact rfl
                  clear hrq h60 h38
                  go_wp2_with (first | (go_at_call 40; refine (peek_t hi hok).mono ?_; rintro e w' ⟨rfl, m, rfl⟩) | (go_at_call 45; refine (scan_ok (ref_s (hi.drewN _)) HRF.out).mono ?_; rintro e w3 ⟨rfl, hg3, hi3⟩) | (go_at_call 44; refine (put_v hi3 (hvr2 _ (grownBy_trans (gd _) hg3)) hPB (by omega) hcc).mono ?_; rw [HP.out]; rintro e w4 ⟨rfl, hb4, hv4⟩))
                  go_roundg n
                  case measure => omega
                  case rel => exact ⟨k2, out ++ enc (c), grown_below (hgA _ (grownBy_trans (gd _) hg3)) hb4 (Nat.le_refl _), (hi3).below hb4 hPB hgb, hv4, by omega, by have := (hi3).kl; omega, HS⟩
              · have HRF : Hid (refS l j = .bad p er) := hrf
                clear hrf
                have HR : Hid (valL (l.length + 1) l v.t k q [] k1 = .bad p er) := by
                  rw [← HF.out, valL, peekS_t hok, bind_ok, if_neg hrq, if_neg h60, if_pos h38, HRF.out]; exact rfl
                clear hrq h60 h38
                go_wp2_with (first | (go_at_call 40; refine (peek_t hi hok).mono ?_; rintro e w' ⟨rfl, m, rfl⟩) | (go_at_call 45; refine (scan_bad (ref_s (hi.drewN _)) HRF.out).mono ?_; rintro e w3 ⟨rfl, hg3, kk, hp3⟩))
                refine ⟨rfl, ?_⟩
                rw [HR.out]
                exact ⟨rfl, hgA _ (grownBy_trans (gd _) hg3), kk, hp3⟩
            · have h38b : (lt l j == 38) = false := by simp [h38]
              cases hw : isWhite (lt l j)
              · have hcr : okl l j = true := hok
                have hcc : isChar (lt l j) = true := hok
                by_cases hbig : v.t < ((out ++ enc (lt l j)).length : Int)
                · have HP : Hid (putE v.t (k : Int) out (lt l j) = .panicked (flt k 3)) := by unfold putE; rw [if_pos hbig]; exact rfl
                  have HR : Hid (valL (l.length + 1) l v.t k q [] k1 = .bad k 3) := by
                    rw [← HF.out, valL, peekS_t hok, bind_ok]
                    rw [if_neg hrq, if_neg h60, if_neg h38, if_neg (by rw [hw]; simp), takeS_t hok, bind_ok]
                    rw [putS, if_pos hbig]
                    exact rfl
                  clear hrq h60 h38
                  go_wp2_with (first | (go_at_call 40; refine (peek_t hi hok).mono ?_; rintro e w' ⟨rfl, m, rfl⟩) | (go_at_call 50; refine (white_any _ _).mono ?_; rintro e w' ⟨rfl, rfl⟩) | (go_at_call 41; refine (take_t (hi.drewN _) hok).mono ?_; rintro e w3 ⟨rfl, hg3, hi3⟩) | (go_at_call 44; refine (put_v hi3 (hvr2 _ (grownBy_trans (gd _) hg3)) hPB (by omega) hcc).mono ?_; rw [HP.out]; rintro e w4 ⟨rfl, hb4, hv4⟩))
                  refine ⟨rfl, ?_⟩
                  rw [HR.out]
                  exact ⟨rfl, grown_below (hgA _ (grownBy_trans (gd _) hg3)) hb4 (Nat.le_refl _), _, ((hi3).below hb4 hPB hgb).ps⟩
                · have HP : Hid (putE v.t (k : Int) out (lt l j) = .returned (.tuple #[])) := by unfold putE; rw [if_neg hbig]; exact rfl
                  have HS : Hid (valL n l v.t k q (out ++ enc (lt l j)) (j + ln l j) = valL (l.length + 1) l v.t k q [] k1) := by
                    rw [← HF.out, valL, peekS_t hok, bind_ok]
                    rw [if_neg hrq, if_neg h60, if_neg h38, if_neg (by rw [hw]; simp), takeS_t hok, bind_ok]
                    rw [putS, if_neg hbig]
                    exact rfl
                  clear hrq h60 h38
                  go_wp2_with (first | (go_at_call 40; refine (peek_t hi hok).mono ?_; rintro e w' ⟨rfl, m, rfl⟩) | (go_at_call 50; refine (white_any _ _).mono ?_; rintro e w' ⟨rfl, rfl⟩) | (go_at_call 41; refine (take_t (hi.drewN _) hok).mono ?_; rintro e w3 ⟨rfl, hg3, hi3⟩) | (go_at_call 44; refine (put_v hi3 (hvr2 _ (grownBy_trans (gd _) hg3)) hPB (by omega) hcc).mono ?_; rw [HP.out]; rintro e w4 ⟨rfl, hb4, hv4⟩))
                  go_roundg n
                  case measure => omega
                  case rel => exact ⟨j + ln l j, out ++ enc (lt l j), grown_below (hgA _ (grownBy_trans (gd _) hg3)) hb4 (Nat.le_refl _), (hi3).below hb4 hPB hgb, hv4, by omega, by have := (hi3).kl; omega, HS⟩
              · rcases hln : lineS l j with ⟨c, k2⟩ | ⟨p, er⟩
                · have HLN : Hid (lineS l j = .ok c k2) := hln
                  obtain ⟨hcr, hk2⟩ := lineS_ok hln
                  clear hln
                  have hcc : isChar (32) = true := by decide
                  by_cases hbig : v.t < ((out ++ enc (32)).length : Int)
                  · have HP : Hid (putE v.t (k : Int) out (32) = .panicked (flt k 3)) := by unfold putE; rw [if_pos hbig]; exact rfl
                    have HR : Hid (valL (l.length + 1) l v.t k q [] k1 = .bad k 3) := by
                      rw [← HF.out, valL, peekS_t hok, bind_ok]
                      rw [if_neg hrq, if_neg h60, if_neg h38, if_pos hw, HLN.out, bind_ok]
                      rw [putS, if_pos hbig]
                      exact rfl
                    clear hrq h60 h38
                    go_wp2_with (first | (go_at_call 40; refine (peek_t hi hok).mono ?_; rintro e w' ⟨rfl, m, rfl⟩) | (go_at_call 50; refine (white_any _ _).mono ?_; rintro e w' ⟨rfl, rfl⟩) | (go_at_call 48; refine (scan_ok (line_s (hi.drewN _)) HLN.out).mono ?_; rintro e w3 ⟨rfl, hg3, hi3⟩) | (go_at_call 44; refine (put_v hi3 (hvr2 _ (grownBy_trans (gd _) hg3)) hPB (by omega) hcc).mono ?_; rw [HP.out]; rintro e w4 ⟨rfl, hb4, hv4⟩))
                    refine ⟨rfl, ?_⟩
                    rw [HR.out]
                    exact ⟨rfl, grown_below (hgA _ (grownBy_trans (gd _) hg3)) hb4 (Nat.le_refl _), _, ((hi3).below hb4 hPB hgb).ps⟩
                  · have HP : Hid (putE v.t (k : Int) out (32) = .returned (.tuple #[])) := by unfold putE; rw [if_neg hbig]; exact rfl
                    have HS : Hid (valL n l v.t k q (out ++ enc (32)) (k2) = valL (l.length + 1) l v.t k q [] k1) := by
                      rw [← HF.out, valL, peekS_t hok, bind_ok]
                      rw [if_neg hrq, if_neg h60, if_neg h38, if_pos hw, HLN.out, bind_ok]
                      rw [putS, if_neg hbig]
                      exact rfl
                    clear hrq h60 h38
                    go_wp2_with (first | (go_at_call 40; refine (peek_t hi hok).mono ?_; rintro e w' ⟨rfl, m, rfl⟩) | (go_at_call 50; refine (white_any _ _).mono ?_; rintro e w' ⟨rfl, rfl⟩) | (go_at_call 48; refine (scan_ok (line_s (hi.drewN _)) HLN.out).mono ?_; rintro e w3 ⟨rfl, hg3, hi3⟩) | (go_at_call 44; refine (put_v hi3 (hvr2 _ (grownBy_trans (gd _) hg3)) hPB (by omega) hcc).mono ?_; rw [HP.out]; rintro e w4 ⟨rfl, hb4, hv4⟩))
                    go_roundg n
                    case measure => omega
                    case rel => exact ⟨k2, out ++ enc (32), grown_below (hgA _ (grownBy_trans (gd _) hg3)) hb4 (Nat.le_refl _), (hi3).below hb4 hPB hgb, hv4, by omega, by have := (hi3).kl; omega, HS⟩
                · exfalso
                  rw [lineS, takeS_t hok, bind_ok] at hln
                  split at hln
                  · split at hln <;> cases hln
                  · cases hln
  · rw [bind_bad]
    go_enter Tryd.func91, Tryd.ntmps91
    go_wp2_with (go_at_call 71; refine (scan_bad (quote_s h0) hq).mono ?_; rintro e w1 ⟨rfl, hg1, kk, hp⟩)
    exact ⟨rfl, rfl, grownBy_trans hg0 hg1, kk, hp⟩
end Go.Proofs.YtjcgnbmpnaapdaaDoor
