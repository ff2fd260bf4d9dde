/- The reader: an atom. -/
import Derived.Test.YthlkbijpphdblaaB9
namespace Go.Proofs.Ythlkbijpphdblaa
open Go.RowKit
set_option linter.unusedVariables false

theorem atom_lt {l : Bs} (hb : ∀ i, 0 ≤ l.getD i 0 ∧ l.getD i 0 < 256) : ∀ (d o k : Nat) (x : Nd) (k' : Nat), atomS l d o k = .ok x k' → k < k'
  | 0, o, k, x, k', h => by cases h
  | d + 1, o, k, x, k', h => by
    unfold atomS at h
    by_cases hn : ln l k = 0
    · rw [let_bad hn] at h; cases h
    rw [let_ok hn, R.bind_ok] at h
    dsimp only at h
    by_cases e40 : lt l k = 40
    · rw [if_pos e40] at h
      unfold entS at h
      by_cases ho : o = 40
      · rw [if_pos ho] at h; cases h
      rw [if_neg ho, R.bind_ok] at h
      cases hp : patS (atomS l d (o + 1)) l (k + 1) with
      | bad p e => rw [hp] at h; cases h
      | ok y k2 =>
        have := pat_ge (fun k x k' => atom_lt hb d (o + 1) k x k') hp
        rw [hp, R.bind_ok] at h
        cases hs : sgnS l 41 k2 with
        | bad p e => rw [hs] at h; cases h
        | ok u k3 =>
          have := (sgn_k hs).1
          rw [hs, R.bind_ok] at h
          injection h with _ h2
          omega
    rw [if_neg e40] at h
    by_cases e91 : lt l k = 91
    · rw [if_pos e91] at h
      cases hc : clsS l 41 o k with
      | bad p e => rw [hc] at h; cases h
      | ok s k1 =>
        have := (cls_ok hb _ _ _ _ _ hc).2.2
        rw [hc, R.bind_ok] at h
        injection h with _ h2
        omega
    rw [if_neg e91] at h
    by_cases e92 : lt l k = 92
    · rw [if_pos e92] at h
      cases hc : epS l k with
      | bad p e => rw [hc] at h; cases h
      | ok s k1 =>
        have := (ep_ok hc).lt
        rw [hc, R.bind_ok] at h
        injection h with _ h2
        omega
    rw [if_neg e92] at h
    by_cases e46 : lt l k = 46
    · rw [if_pos e46] at h
      injection h with _ h2
      omega
    rw [if_neg e46] at h
    by_cases e63 : lt l k = 63
    · rw [if_pos e63] at h; cases h
    rw [if_neg e63] at h
    by_cases e42 : lt l k = 42
    · rw [if_pos e42] at h; cases h
    rw [if_neg e42] at h
    by_cases e43 : lt l k = 43
    · rw [if_pos e43] at h; cases h
    rw [if_neg e43] at h
    by_cases e41 : lt l k = 41
    · rw [if_pos e41] at h; cases h
    rw [if_neg e41] at h
    by_cases e124 : lt l k = 124
    · rw [if_pos e124] at h; cases h
    rw [if_neg e124] at h
    by_cases e93 : lt l k = 93
    · rw [if_pos e93] at h; cases h
    rw [if_neg e93] at h
    by_cases e123 : lt l k = 123
    · rw [if_pos e123] at h; cases h
    rw [if_neg e123] at h
    by_cases e125 : lt l k = 125
    · rw [if_pos e125] at h; cases h
    rw [if_neg e125] at h
    injection h with _ h2
    omega
theorem dot_of {s n : List Rg} (h : OfS ([(10, 10)] ++ [(13, 13)]) s) (hn : NotS s n) : n = notR 0 (ofR [(10, 10), (13, 13)]) := by
  have e := of_same h
  subst e
  exact (not_same (ofR_ok _).cn hn).symm
set_option maxRecDepth 4000 in
set_option maxHeartbeats 16000000 in
theorem atom_p {P : Nat} {vb : Value} {l : Bs} : ∀ (d o : Nat), 41 ≤ d + o → AtC P vb l o (atomS l d o)
  | 0, o, hd => fun k w h => by have := h.oo; omega
  | d + 1, o, hd => fun k w h => by
    have IH : Hid (AtC P vb l (o + 1) (atomS l d (o + 1))) := atom_p d (o + 1) (by omega)
    obtain ⟨X, hX⟩ : ∃ X, atomS l (d + 1) o k = X := ⟨_, rfl⟩
    rw [hX]
    unfold atomS at hX
    have hll := h.ll
    have hbt := h.br.bt
    have hPw := lt_of h.ps
    have HBT : Hid _ := hbt
    have x0 := nw_heap w (.cells zN 27)
    have b0 : Below w.heap.size w (w.alloc (.cells zN 27)) := (Below.refl _ _).alloc (Nat.le_refl _) _
    have z0 := sza w (.cells zN 27)
    have h0 := h.below b0
    have q := letter_p h0 k h.kl
    obtain ⟨⟨c0, c1, c2⟩, f0, f1, f2⟩ := cells3 h0.ps
    have hP0 : P < (w.alloc (.cells zN 27)).heap.size := lt_of h0.ps
    by_cases hn : ln l k = 0
    · rw [let_bad hn] at q hX
      have HQ : Hid _ := And.intro q (And.intro hX b0)
      clear q h h0 hX hn hbt x0 b0 z0
      go_enter Try.func59, Try.ntmps59
      go_wp2_with fail
      refine Calls.mono HQ.out.1 ?_
      rintro e w1 ⟨rfl, m, hw⟩
      exact ⟨rfl, mn_bad HQ.out.2.1 ((Fro.below HQ.out.2.2).trans (fro_of hw))⟩
    have hk := ln_end hn
    obtain ⟨r0, r1⟩ := lt_rg hbt hn
    rw [let_ok hn] at q hX
    rw [R.bind_ok] at hX
    have hle := ln_le l k h.kl
    generalize lt l k = r at *
    generalize ln l k = n at *
    dsimp only at hX
    have HX : Hid _ := hX
    have HQ : Hid _ := And.intro q (And.intro h0 (And.intro b0 (And.intro x0 z0)))
    clear q h h0 hX hbt x0 b0 z0
    go_enter Try.func59, Try.ntmps59
    go_wp2_with fail
    refine Calls.mono HQ.out.1 ?_
    rintro e w1 ⟨rfl, m, hw⟩
    have hi1 := HQ.out.2.1.dr hw
    have hf1 : Fro (fun j => j = P) w w1 := (Fro.below HQ.out.2.2.1).trans (fro_of hw)
    have hx1 := ((bel_of hw).block _ (lt_of HQ.out.2.2.2.1)).trans HQ.out.2.2.2.1
    have hz1 : w.heap.size + 1 ≤ w1.heap.size := by have := (bel_of hw).size; rw [HQ.out.2.2.2.2] at this; exact this
    have qf := fun U => fail_p P (k : Int) U
    have HI : Hid (In P w1 vb l k o ∧ Fro (fun j => j = P) w w1 ∧ w1.heap[w.heap.size]? = some (.cells zN 27 (0, 0)) ∧ (∀ U, Calls Try.prog 38 #[pp P, .int .i64 (k : Int)] U fun e w' => e = .panicked (flt (k : Int) 2) ∧ w' = U)) := ⟨hi1, hf1, hx1, qf⟩
    clear c0 c1 c2 f0 f1 f2 hw HQ qf hf1 hx1
    obtain ⟨⟨c0, c1, c2⟩, f0, f1, f2⟩ := cells3 hi1.ps
    clear hi1
    by_cases e40 : r = 40
    · have hX := HX.out
      rw [if_pos e40] at hX
      subst e40
      have qe := enter_p HI.out.1 hk
      cases he : entS o k with
      | bad p er =>
        rw [he] at qe hX
        have HJ : Hid _ := And.intro qe hX
        clear qe hX HX he
        go_wp2_with fail
        refine Calls.mono HJ.out.1 ?_
        rintro e w2 ⟨rfl, hf⟩
        exact ⟨rfl, mn_bad HJ.out.2 (HI.out.2.1.trans hf)⟩
      | ok u k1 =>
        rw [he] at qe hX
        rw [R.bind_ok] at hX
        have HJ : Hid _ := And.intro qe hX
        clear qe hX HX he
        go_wp2_with fail
        refine Calls.mono HJ.out.1 ?_
        rintro e w2 ⟨rfl, hi2, hf2⟩
        have hX := HJ.out.2
        have hz2 := hf2.size
        have qp := pattern_p IH.out (fun k x k' => atom_lt HBT.out d (o + 1) k x k') hi2
        have H2 : Hid _ := And.intro (HI.out.2.1.trans hf2) (hf2.at HI.out.2.2.1 (by omega))
        clear hi2 hf2 HJ c0 c1 c2 f0 f1 f2
        cases hp : patS (atomS l d (o + 1)) l k1 with
        | bad p er =>
          rw [hp] at qp hX
          have H3 : Hid _ := And.intro qp hX
          clear qp hX hp
          go_wp2_with fail
          refine Calls.mono H3.out.1 ?_
          rintro e w3 ⟨rfl, hf⟩
          exact ⟨rfl, mn_bad H3.out.2 (H2.out.1.trans hf)⟩
        | ok x k3 =>
          rw [hp] at qp hX
          rw [R.bind_ok] at hX
          have H3 : Hid _ := And.intro qp hX
          clear qp hX hp
          go_wp2_with fail
          refine Calls.mono H3.out.1 ?_
          rintro e w3 ⟨q0, s0, s1, s2, q2, q3, t0, t1, t2, rfl, hn3, hi3, hf3⟩
          have hX := H3.out.2
          have b3 : Below w3.heap.size w3 (w3.alloc (.cells #[.int .i64 q0, .slice s0 s1 s2, .int .i64 q2, .int .i64 q3, .slice t0 t1 t2] 27)) := (Below.refl _ _).alloc (Nat.le_refl _) _
          have y3 := nw_heap w3 (.cells #[.int .i64 q0, .slice s0 s1 s2, .int .i64 q2, .int .i64 q3, .slice t0 t1 t2] 27)
          have hz3 := hf3.size
          have hP3 := lt_of hi3.ps
          have ql := leave_p (o := o) 41 (hi3.below b3) (by omega)
          have H4 : Hid (Fro (fun j => j = P) w w3 ∧ w3.heap[w.heap.size]? = some (.cells zN 27 (0, 0)) ∧ NdV (Nw w2 w3) w3 x [.int .i64 q0, .slice s0 s1 s2, .int .i64 q2, .int .i64 q3, .slice t0 t1 t2] ∧ Below w3.heap.size w3 (w3.alloc (.cells #[.int .i64 q0, .slice s0 s1 s2, .int .i64 q2, .int .i64 q3, .slice t0 t1 t2] 27)) ∧ (w3.alloc (.cells #[.int .i64 q0, .slice s0 s1 s2, .int .i64 q2, .int .i64 q3, .slice t0 t1 t2] 27)).heap[w3.heap.size]? = some (.cells #[.int .i64 q0, .slice s0 s1 s2, .int .i64 q2, .int .i64 q3, .slice t0 t1 t2] 27 (0, 0))) := ⟨H2.out.1.trans hf3, hf3.at H2.out.2 (by omega), hn3, b3, y3⟩
          clear hn3 hi3 hf3 b3 y3 H3 H2
          cases hl : sgnS l 41 k3 with
          | bad p er =>
            rw [hl] at ql hX
            have H5 : Hid _ := And.intro ql hX
            clear ql hX hl
            go_wp2_with fail
            refine Calls.mono H5.out.1 ?_
            rintro e w5 ⟨rfl, hf⟩
            exact ⟨rfl, mn_bad H5.out.2 ((H4.out.1.trans (Fro.below H4.out.2.2.2.1)).trans hf)⟩
          | ok u k5 =>
            rw [hl] at ql hX
            rw [R.bind_ok] at hX
            have H5 : Hid _ := And.intro ql hX
            clear ql hX hl
            go_wp2_with fail
            refine Calls.mono H5.out.1 ?_
            rintro e w5 ⟨rfl, hi5, hf5⟩
            have hff5 := (H4.out.1.trans (Fro.below H4.out.2.2.2.1)).trans hf5
            have hx5 := hf5.at ((H4.out.2.2.2.1.block _ (lt_of H4.out.2.1)).trans H4.out.2.1) (by omega)
            have hy5 := hf5.at H4.out.2.2.2.2 (by omega)
            have hs35 : w3.heap.size < w5.heap.size := lt_of hy5
            have hnx : NdV (Nw w2 w3) w5 x [.int .i64 q0, .slice s0 s1 s2, .int .i64 q2, .int .i64 q3, .slice t0 t1 t2] := H4.out.2.2.1.fro (fun g hg => hg) (Nat.le_of_lt hs35) (fun g hg hgs => (hf5.block g (by have := H4.out.2.2.2.1.size; omega) (by have := hg.1; omega)).trans (H4.out.2.2.2.1.block g hgs))
            obtain ⟨⟨d0, d1, d2, d3, d4⟩, e0, e1, e2, e3, e4⟩ := cells5 hy5
            obtain ⟨⟨y0, y1, y2, y3, y4⟩, g0, g1, g2, g3, g4⟩ := cells5 hx5
            have H6 : Hid _ := And.intro hi5 (And.intro hff5 (And.intro hnx (And.intro hx5 H5.out.2)))
            clear hi5 hf5 hff5 hnx hx5 hy5 H4 H5
            go_wp2_with fail
            have va5 := put5_at H6.out.2.2.2.1 (.int .i64 q0) (.slice s0 s1 s2) (.int .i64 q2) (.int .i64 q3) (.slice t0 t1 t2)
            obtain ⟨⟨k0, k1', k2', k3', k4⟩, _⟩ := cells5 va5
            refine bodyPost_ret (v := .agg #[.int .i64 q0, .slice s0 s1 s2, .int .i64 q2, .int .i64 q3, .slice t0 t1 t2]) (by simp [results, Try.results59, go_sem, k0, k1', k2', k3', k4]) rfl (mn_ok H6.out.2.2.2.2 (nd_fin H6.out.2.2.1 (fun g hg => ⟨by have := hg.1; omega, by have := hg.2; omega⟩) _ _ _ _ _) (in_put5 H6.out.1 hPw _ _ _ _ _) (put5_fro H6.out.2.1 (.inr (Nat.le_refl _)) _ _ _ _ _))
    by_cases e91 : r = 91
    · have hX := HX.out
      rw [if_neg e40, if_pos e91] at hX
      subst e91
      have qe := class_p 41 k o w1 HI.out.1 hk (by omega)
      cases he : clsS l 41 o k with
      | bad p er =>
        rw [he] at qe hX
        have HJ : Hid _ := And.intro qe hX
        clear qe hX HX he
        go_wp2_with fail
        refine Calls.mono HJ.out.1 ?_
        rintro e w2 ⟨rfl, hf⟩
        exact ⟨rfl, mn_bad HJ.out.2 (HI.out.2.1.trans hf)⟩
      | ok s k2 =>
        rw [he] at qe hX
        rw [R.bind_ok] at hX
        have HJ : Hid _ := And.intro qe hX
        clear qe hX HX he
        go_wp2_with fail
        refine Calls.mono HJ.out.1 ?_
        rintro e w2 ⟨a2, cc2, rfl, o2, hi2, hf2⟩
        have hxW : w2.heap[w.heap.size]? = some (.cells zN 27 (0, 0)) := hf2.at HI.out.2.2.1 (by omega)
        obtain ⟨⟨y0, y1, y2, y3, y4⟩, g0, g1, g2, g3, g4⟩ := cells5 hxW
        have H9 : Hid (Own .i32 64 w2 (w.heap.size + 1) (.slice a2 (s).length cc2) (s) ∧ In P w2 vb l (k2) o ∧ Fro (fun j => j = P) w w2 ∧ w2.heap[w.heap.size]? = some (.cells zN 27 (0, 0)) ∧ .ok (symN (s)) (k2) = X) := ⟨o2.mono hz1, hi2, HI.out.2.1.trans hf2, hxW, HJ.out.2⟩
        clear hxW
        go_wp2_with fail
        have va5 := put5_at H9.out.2.2.2.1 (.int .i64 2) (.slice a2 (s).length cc2) (.int .i64 0) (.int .i64 0) (.slice none 0 0)
        obtain ⟨⟨k0, k1', k2', k3', k4⟩, _⟩ := cells5 va5
        refine bodyPost_ret (v := .agg #[.int .i64 2, .slice a2 (s).length cc2, .int .i64 0, .int .i64 0, .slice none 0 0]) (by simp [results, Try.results59, go_sem, k0, k1', k2', k3', k4]) rfl (mn_ok H9.out.2.2.2.2 (nd_fin (nd_leaf 2 (own_slo H9.out.1 (O := fun g => w.heap.size < g ∧ g < w2.heap.size) (fun g h1 h2 => ⟨by omega, h2⟩))) (fun g hg => hg) _ _ _ _ _) (in_put5 H9.out.2.1 hPw _ _ _ _ _) (put5_fro H9.out.2.2.1 (.inr (Nat.le_refl _)) _ _ _ _ _))
    by_cases e92 : r = 92
    · have hX := HX.out
      rw [if_neg e40, if_neg e91, if_pos e92] at hX
      subst e92
      have qe := escape_p HI.out.1 hk
      cases he : epS l k with
      | bad p er =>
        rw [he] at qe hX
        have HJ : Hid _ := And.intro qe hX
        clear qe hX HX he
        go_wp2_with fail
        refine Calls.mono HJ.out.1 ?_
        rintro e w2 ⟨rfl, hf⟩
        exact ⟨rfl, mn_bad HJ.out.2 (HI.out.2.1.trans hf)⟩
      | ok s k2 =>
        rw [he] at qe hX
        rw [R.bind_ok] at hX
        have HJ : Hid _ := And.intro qe hX
        clear qe hX HX he
        go_wp2_with fail
        refine Calls.mono HJ.out.1 ?_
        rintro e w2 ⟨a2, cc2, rfl, o2, hi2, hf2⟩
        have hxW : w2.heap[w.heap.size]? = some (.cells zN 27 (0, 0)) := hf2.at HI.out.2.2.1 (by omega)
        obtain ⟨⟨y0, y1, y2, y3, y4⟩, g0, g1, g2, g3, g4⟩ := cells5 hxW
        have H9 : Hid (Own .i32 64 w2 (w.heap.size + 1) (.slice a2 (s).length cc2) (s) ∧ In P w2 vb l (k2) o ∧ Fro (fun j => j = P) w w2 ∧ w2.heap[w.heap.size]? = some (.cells zN 27 (0, 0)) ∧ .ok (symN (s)) (k2) = X) := ⟨o2.mono hz1, hi2, HI.out.2.1.trans hf2, hxW, HJ.out.2⟩
        clear hxW
        go_wp2_with fail
        have va5 := put5_at H9.out.2.2.2.1 (.int .i64 2) (.slice a2 (s).length cc2) (.int .i64 0) (.int .i64 0) (.slice none 0 0)
        obtain ⟨⟨k0, k1', k2', k3', k4⟩, _⟩ := cells5 va5
        refine bodyPost_ret (v := .agg #[.int .i64 2, .slice a2 (s).length cc2, .int .i64 0, .int .i64 0, .slice none 0 0]) (by simp [results, Try.results59, go_sem, k0, k1', k2', k3', k4]) rfl (mn_ok H9.out.2.2.2.2 (nd_fin (nd_leaf 2 (own_slo H9.out.1 (O := fun g => w.heap.size < g ∧ g < w2.heap.size) (fun g h1 h2 => ⟨by omega, h2⟩))) (fun g hg => hg) _ _ _ _ _) (in_put5 H9.out.2.1 hPw _ _ _ _ _) (put5_fro H9.out.2.2.1 (.inr (Nat.le_refl _)) _ _ _ _ _))
    by_cases e46 : r = 46
    · have hX := HX.out
      rw [if_neg e40, if_neg e91, if_neg e92, if_pos e46] at hX
      subst e46
      have hs := set_at HI.out.1 (k + 1) ((k : Int) + 1) (by omega) (by omega)
      have hi2 := hs.1
      have hf2 := hs.2
      clear hs HX
      go_upto_region 14 with fail
      obtain ⟨W, hW⟩ : ∃ W, w1.setCell ⟨P, 1, none⟩ (.int .i64 ((k : Int) + 1)) = W := ⟨_, rfl⟩
      rw [hW] at hi2 hf2 ⊢
      have hzW := hf2.size
      have HJ : Hid (In P W vb l (k + 1) o ∧ Fro (fun j => j = P) w W ∧ W.heap[w.heap.size]? = some (.cells zN 27 (0, 0)) ∧ .ok (symN (notR 0 (ofR [(10, 10), (13, 13)]))) (k + 1) = X) := ⟨hi2, HI.out.2.1.trans hf2, hf2.at HI.out.2.2.1 (by omega), hX⟩
      clear hi2 hf2 hX hW HI c0 c1 c2 f0 f1 f2
      go_wp2_with fail
      refine Calls.mono (just_p 10 _ (by omega) (by omega)) ?_
      rintro e w3 ⟨a3, c3, rfl, o3, hb3⟩
      have H3 : Hid _ := And.intro o3.sl hb3
      clear o3 hb3
      go_wp2_with fail
      refine Calls.mono (just_p 13 _ (by omega) (by omega)) ?_
      rintro e w4 ⟨a4, c4, rfl, o4, hb4⟩
      have H4 : Hid _ := And.intro (H3.out.1.below hb4) (And.intro o4.sl (H3.out.2.trans (hb4.mono H3.out.2.size)))
      clear o4 hb4 H3
      go_wp2_with fail
      refine Calls.mono (union_p _ _ [(10, 10)] [(13, 13)] w4 H4.out.1 H4.out.2.1 (by simp)) ?_
      rintro e w5 ⟨v5, s5, rfl, hof, o5, hl5, hb5⟩
      have hl5' : s5.length ≤ 50000 := Nat.le_trans hl5 (by simp)
      have H5 : Hid _ := And.intro hof (And.intro o5.sl (H4.out.2.2.trans (hb5.mono H4.out.2.2.size)))
      clear hof o5 hb5 hl5 H4
      go_wp2_with fail
      refine Calls.mono (not_p _ s5 w5 H5.out.2.1 H5.out.1.cn hl5') ?_
      rintro e w6 ⟨v6, s6, rfl, hnot, o6, hl6, hb6⟩
      have hs6 := dot_of H5.out.1 hnot
      subst hs6
      obtain ⟨a6, c6, rfl⟩ := own_form o6
      have hb := H5.out.2.2.trans (hb6.mono H5.out.2.2.size)
      have hz5 := H5.out.2.2.size
      have hxW : w6.heap[w.heap.size]? = some (.cells zN 27 (0, 0)) := (hb.block _ (lt_of HJ.out.2.2.1)).trans HJ.out.2.2.1
      obtain ⟨⟨y0, y1, y2, y3, y4⟩, g0, g1, g2, g3, g4⟩ := cells5 hxW
      have H9 : Hid (Own .i32 64 w6 (w.heap.size + 1) (.slice a6 (notR 0 (ofR [(10, 10), (13, 13)])).length c6) (notR 0 (ofR [(10, 10), (13, 13)])) ∧ In P w6 vb l (k + 1) o ∧ Fro (fun j => j = P) w w6 ∧ w6.heap[w.heap.size]? = some (.cells zN 27 (0, 0)) ∧ .ok (symN (notR 0 (ofR [(10, 10), (13, 13)]))) (k + 1) = X) := ⟨o6.mono (by omega), HJ.out.1.below hb, HJ.out.2.1.trans (Fro.below hb), hxW, HJ.out.2.2.2⟩
      clear hxW
      go_wp2_with fail
      have va5 := put5_at H9.out.2.2.2.1 (.int .i64 2) (.slice a6 (notR 0 (ofR [(10, 10), (13, 13)])).length c6) (.int .i64 0) (.int .i64 0) (.slice none 0 0)
      obtain ⟨⟨k0, k1', k2', k3', k4⟩, _⟩ := cells5 va5
      refine bodyPost_ret (v := .agg #[.int .i64 2, .slice a6 (notR 0 (ofR [(10, 10), (13, 13)])).length c6, .int .i64 0, .int .i64 0, .slice none 0 0]) (by simp [results, Try.results59, go_sem, k0, k1', k2', k3', k4]) rfl (mn_ok H9.out.2.2.2.2 (nd_fin (nd_leaf 2 (own_slo H9.out.1 (O := fun g => w.heap.size < g ∧ g < w6.heap.size) (fun g h1 h2 => ⟨by omega, h2⟩))) (fun g hg => hg) _ _ _ _ _) (in_put5 H9.out.2.1 hPw _ _ _ _ _) (put5_fro H9.out.2.2.1 (.inr (Nat.le_refl _)) _ _ _ _ _))
    by_cases e63 : r = 63
    · have hX := HX.out
      rw [if_neg e40, if_neg e91, if_neg e92, if_neg e46, if_pos e63] at hX
      subst e63
      have HJ : Hid _ := hX
      clear hX HX
      go_wp2_with fail
      refine Calls.mono (HI.out.2.2.2 _) ?_
      rintro e w2 ⟨rfl, hw⟩
      subst hw
      exact ⟨rfl, mn_bad HJ.out HI.out.2.1⟩
    by_cases e42 : r = 42
    · have hX := HX.out
      rw [if_neg e40, if_neg e91, if_neg e92, if_neg e46, if_neg e63, if_pos e42] at hX
      subst e42
      have HJ : Hid _ := hX
      clear hX HX
      go_wp2_with fail
      refine Calls.mono (HI.out.2.2.2 _) ?_
      rintro e w2 ⟨rfl, hw⟩
      subst hw
      exact ⟨rfl, mn_bad HJ.out HI.out.2.1⟩
    by_cases e43 : r = 43
    · have hX := HX.out
      rw [if_neg e40, if_neg e91, if_neg e92, if_neg e46, if_neg e63, if_neg e42, if_pos e43] at hX
      subst e43
      have HJ : Hid _ := hX
      clear hX HX
      go_wp2_with fail
      refine Calls.mono (HI.out.2.2.2 _) ?_
      rintro e w2 ⟨rfl, hw⟩
      subst hw
      exact ⟨rfl, mn_bad HJ.out HI.out.2.1⟩
    by_cases e41 : r = 41
    · have hX := HX.out
      rw [if_neg e40, if_neg e91, if_neg e92, if_neg e46, if_neg e63, if_neg e42, if_neg e43, if_pos e41] at hX
      subst e41
      have HJ : Hid _ := hX
      clear hX HX
      go_wp2_with fail
      refine Calls.mono (HI.out.2.2.2 _) ?_
      rintro e w2 ⟨rfl, hw⟩
      subst hw
      exact ⟨rfl, mn_bad HJ.out HI.out.2.1⟩
    by_cases e124 : r = 124
    · have hX := HX.out
      rw [if_neg e40, if_neg e91, if_neg e92, if_neg e46, if_neg e63, if_neg e42, if_neg e43, if_neg e41, if_pos e124] at hX
      subst e124
      have HJ : Hid _ := hX
      clear hX HX
      go_wp2_with fail
      refine Calls.mono (HI.out.2.2.2 _) ?_
      rintro e w2 ⟨rfl, hw⟩
      subst hw
      exact ⟨rfl, mn_bad HJ.out HI.out.2.1⟩
    by_cases e93 : r = 93
    · have hX := HX.out
      rw [if_neg e40, if_neg e91, if_neg e92, if_neg e46, if_neg e63, if_neg e42, if_neg e43, if_neg e41, if_neg e124, if_pos e93] at hX
      subst e93
      have HJ : Hid _ := hX
      clear hX HX
      go_wp2_with fail
      refine Calls.mono (HI.out.2.2.2 _) ?_
      rintro e w2 ⟨rfl, hw⟩
      subst hw
      exact ⟨rfl, mn_bad HJ.out HI.out.2.1⟩
    by_cases e123 : r = 123
    · have hX := HX.out
      rw [if_neg e40, if_neg e91, if_neg e92, if_neg e46, if_neg e63, if_neg e42, if_neg e43, if_neg e41, if_neg e124, if_neg e93, if_pos e123] at hX
      subst e123
      have HJ : Hid _ := hX
      clear hX HX
      go_wp2_with fail
      refine Calls.mono (HI.out.2.2.2 _) ?_
      rintro e w2 ⟨rfl, hw⟩
      subst hw
      exact ⟨rfl, mn_bad HJ.out HI.out.2.1⟩
    by_cases e125 : r = 125
    · have hX := HX.out
      rw [if_neg e40, if_neg e91, if_neg e92, if_neg e46, if_neg e63, if_neg e42, if_neg e43, if_neg e41, if_neg e124, if_neg e93, if_neg e123, if_pos e125] at hX
      subst e125
      have HJ : Hid _ := hX
      clear hX HX
      go_wp2_with fail
      refine Calls.mono (HI.out.2.2.2 _) ?_
      rintro e w2 ⟨rfl, hw⟩
      subst hw
      exact ⟨rfl, mn_bad HJ.out HI.out.2.1⟩
    have hX := HX.out
    rw [if_neg e40, if_neg e91, if_neg e92, if_neg e46, if_neg e63, if_neg e42, if_neg e43, if_neg e41, if_neg e124, if_neg e93, if_neg e123, if_neg e125] at hX
    have hs := set_at HI.out.1 (k + n) ((k : Int) + (n : Int)) (by omega) hle
    have hi2 := hs.1
    have hf2 := hs.2
    clear hs HX
    go_upto_region 25 with fail
    obtain ⟨W, hW⟩ : ∃ W, w1.setCell ⟨P, 1, none⟩ (.int .i64 ((k : Int) + (n : Int))) = W := ⟨_, rfl⟩
    rw [hW] at hi2 hf2 ⊢
    have hzW := hf2.size
    have HJ : Hid (In P W vb l (k + n) o ∧ Fro (fun j => j = P) w W ∧ W.heap[w.heap.size]? = some (.cells zN 27 (0, 0)) ∧ .ok (symN [(r, r)]) (k + n) = X) := ⟨hi2, HI.out.2.1.trans hf2, hf2.at HI.out.2.2.1 (by omega), hX⟩
    clear hi2 hf2 hX hW HI c0 c1 c2 f0 f1 f2
    go_wp2_with fail
    refine Calls.mono (just_p r _ r0 r1) ?_
    rintro e w3 ⟨a3, c3, rfl, o3, hb3⟩
    have hxW : w3.heap[w.heap.size]? = some (.cells zN 27 (0, 0)) := (hb3.block _ (lt_of HJ.out.2.2.1)).trans HJ.out.2.2.1
    obtain ⟨⟨y0, y1, y2, y3, y4⟩, g0, g1, g2, g3, g4⟩ := cells5 hxW
    have H9 : Hid (Own .i32 64 w3 (w.heap.size + 1) (.slice a3 1 c3) ([(r, r)]) ∧ In P w3 vb l (k + n) o ∧ Fro (fun j => j = P) w w3 ∧ w3.heap[w.heap.size]? = some (.cells zN 27 (0, 0)) ∧ .ok (symN ([(r, r)])) (k + n) = X) := ⟨o3.mono (by omega), HJ.out.1.below hb3, HJ.out.2.1.trans (Fro.below hb3), hxW, HJ.out.2.2.2⟩
    clear hxW
    go_wp2_with fail
    have va5 := put5_at H9.out.2.2.2.1 (.int .i64 2) (.slice a3 1 c3) (.int .i64 0) (.int .i64 0) (.slice none 0 0)
    obtain ⟨⟨k0, k1', k2', k3', k4⟩, _⟩ := cells5 va5
    refine bodyPost_ret (v := .agg #[.int .i64 2, .slice a3 1 c3, .int .i64 0, .int .i64 0, .slice none 0 0]) (by simp [results, Try.results59, go_sem, k0, k1', k2', k3', k4]) rfl (mn_ok H9.out.2.2.2.2 (nd_fin (nd_leaf 2 (own_slo H9.out.1 (O := fun g => w.heap.size < g ∧ g < w3.heap.size) (fun g h1 h2 => ⟨by omega, h2⟩))) (fun g hg => hg) _ _ _ _ _) (in_put5 H9.out.2.1 hPw _ _ _ _ _) (put5_fro H9.out.2.2.1 (.inr (Nat.le_refl _)) _ _ _ _ _))
end Go.Proofs.Ythlkbijpphdblaa
