/- The second telling: canon. -/
import Derived.Test.YtakemkhgaicckaaDoorC1
namespace Go.Proofs.YtakemkhgaicckaaDoor
open Go.RowKit
set_option linter.unusedVariables false

set_option maxRecDepth 100000 in
set_option maxHeartbeats 6400000 in
theorem canon_r {w : World} {v : Value} {l : List Int} (h : BtR w v l) (neg : Bool) (s : Nat) (hs : s ≤ l.length) (hl : l.length ≤ 20000) : Calls Tryd.prog 17 #[.bool neg, v, .int .i64 s] w fun e w' => ∃ rv, e = .returned (nmV (canS neg l s).1 rv (canS neg l s).2.2) ∧ BtR w' rv (canS neg l s).2.1 ∧ (∀ k, rv.ownBlock = some k → w.heap.size < k) ∧ Below w.heap.size w w' := by
  obtain ⟨i5, z5, hi5, hz0, hzc, hz1, hz3⟩ := info5p
  obtain ⟨va, vc, rfl, _, _⟩ := h.form
  have hc : canS neg l s = (neg && !((cP (cT s l).2 (cH (cT s l).2 (cT s l).1)).all (· == 0)), cP (cT s l).2 (cH (cT s l).2 (cT s l).1), (cT s l).2) := rfl
  generalize canS neg l s = C at *
  have hb0 : Below w.heap.size w (w.alloc zD) := (Below.refl _ _).alloc (Nat.le_refl _) _
  have HH : Hid _ := And.intro h (And.intro hc hb0)
  clear h hc hb0
  go_enter Tryd.func17, Tryd.ntmps17
  go_wp2_with fail
  go_loopg [1, 2] s (fun m v1 v2 wr => ∃ (l1 : List Int) (a : Option Addr) (c : Nat), v1 = .slice a l1.length c ∧ v2 = .int .i64 m ∧ wr = w.alloc zD ∧ BtR w (.slice a l1.length c) l1 ∧ m ≤ l1.length ∧ l1.length ≤ 20000 ∧ Hid (cT s l = cT m l1))
  case atStart => exact ⟨l, va, vc, rfl, rfl, rfl, HH.out.1, hs, hl, rfl⟩
  case round =>
    obtain ⟨l1, a, c, rfl, rfl, hwr, hb1, hm1, hl1, hct⟩ := hrel
    have HW : Hid _ := hwr
    have hwb : Below w.heap.size w wr := by rw [hwr]; exact HH.out.2.2
    clear hwr
    obtain ⟨_, hcl, hcm⟩ := hb1.lim
    unfold maxLen at hcm
    have HB : Hid _ := And.intro hb1 (And.intro hct hwb)
    clear hb1 hct hwb
    by_cases hgo : ∃ (k : Nat) (m : List Int), gk = k + 1 ∧ l1 = m ++ [0]
    · obtain ⟨k, m, rfl, rfl⟩ := hgo
      obtain ⟨g, o, rfl, hg, hcell⟩ := HB.out.1.cell (by simp)
      have x0 := (HB.out.2.2.cell (p := ⟨g, o + m.length, none⟩) hg).trans (hcell m.length (by simp))
      simp only [List.getElem_concat_length] at x0
      simp only [List.length_append, List.length_cons, List.length_nil, Nat.zero_add] at *
      have e1 : ((m.length + 1 : Nat) : Int) - 1 = m.length := by omega
      have hbi := HB.out.1
      have HB2 : Hid _ := hbi.init
      clear hcell hbi
      go_wp2_with fail
      go_roundg k
      case measure => omega
      case rel => exact ⟨m, _, c, by simp, by simp, HW.out, HB2.out, by omega, by omega, by show _ = _; rw [HB.out.2.1.out, cT_last rfl, if_pos rfl]⟩
    · obtain ⟨t, ht⟩ : ∃ t, t = gk := ⟨_, rfl⟩
      subst ht
      have hcase : ((¬ (0 : Int) < (t : Int)) ∧ cT t l1 = (l1, t)) ∨ ((0 : Int) < (t : Int) ∧ cT t l1 = (l1, t) ∧ ∃ m d, l1 = m ++ [d] ∧ d ≠ 0) := by
        rcases t with _ | k
        · exact .inl ⟨by omega, rfl⟩
        · obtain ⟨m, d, hm, _, _⟩ := last_mod (l := l1) (fun e => by rw [e] at hm1; simp at hm1)
          have hd : d ≠ 0 := fun e => hgo ⟨k, m, rfl, by rw [hm, e]⟩
          exact .inr ⟨by omega, by rw [cT_last hm, if_neg hd], m, d, hm, hd⟩
      clear hgo
      obtain ⟨wo, hwo⟩ : ∃ wo, wo = wr := ⟨_, rfl⟩
      subst hwo
      rcases hcase with ⟨hgp, hex⟩ | ⟨hgp, hex, m, d, hlm, hd0⟩
      case' inl =>
        have HX : Hid _ := hex
        clear hex
        go_wp2_with fail
      case' inr =>
        have HX : Hid _ := hex
        clear hex
        obtain ⟨g, o, rfl, hg, hcell⟩ := HB.out.1.cell (by rw [hlm]; simp)
        have hl2 : l1.length = m.length + 1 := by rw [hlm]; simp
        have x0 := (HB.out.2.2.cell (p := ⟨g, o + m.length, none⟩) hg).trans (hcell m.length (by omega))
        have hd1 : l1[m.length]'(by omega) = d := by
          subst hlm
          simp
        rw [hd1] at x0
        have hbd := HB.out.1.byte d (by rw [hlm]; simp)
        have e1 : ((l1.length : Nat) : Int) - 1 = m.length := by omega
        have hlp : (0 : Int) < (l1.length : Int) := by omega
        have hdz : (d == 0) = false := by simpa using hd0
        have hml : m.length < l1.length := by omega
        have HM : Hid _ := hlm
        clear hlm hl2 hcell hd1
        go_wp2_with fail
      all_goals
        go_loopg [1] l1.length (fun m2 v1 wr => ∃ (l2 : List Int) (a2 : Option Addr) (c2 : Nat), v1 = .slice a2 l2.length c2 ∧ Hid (l2.length = m2) ∧ wr = wo ∧ BtR w (.slice a2 l2.length c2) l2 ∧ Hid (cH t l1 = cH t l2) ∧ t ≤ l2.length ∧ l2.length ≤ 20000)
        case atStart => exact ⟨l1, _, c, rfl, rfl, rfl, HB.out.1, rfl, hm1, hl1⟩
        case round =>
          obtain ⟨l2, a2, c2, rfl, hg2, hwr2, hbt2, hh2, ht2, hl2⟩ := hrel
          subst hwr2
          obtain ⟨_, hcl2, hcm2⟩ := hbt2.lim
          unfold maxLen at hcm2
          have HB2 : Hid _ := And.intro hbt2 (And.intro hh2 hg2)
          clear hbt2 hh2 hg2
          by_cases hgo2 : ∃ r, l2 = 0 :: r ∧ t < r.length
          · obtain ⟨r, rfl, htr⟩ := hgo2
            obtain ⟨g2, o2, rfl, hg2, hcell2⟩ := HB2.out.1.cell (by simp)
            have y0 := (HB.out.2.2.cell (p := ⟨g2, o2, none⟩) hg2).trans (hcell2 0 (by simp))
            simp only [List.getElem_cons_zero] at y0
            have hgk := HB2.out.2.2.out
            simp only [List.length_cons] at *
            obtain ⟨k, rfl⟩ : ∃ k, gk = k + 1 := ⟨gk - 1, by omega⟩
            have hc2 : (1 : Int) < ((r.length + 1 : Nat) : Int) - t := by omega
            have HR : Hid _ := And.intro HB2.out.1.rest hgk
            clear hcell2 hgk
            go_wp2_with fail
            go_roundg k
            case measure => omega
            case rel => exact ⟨r, _, _, by simp, by have := HR.out.2; show _ = _; omega, rfl, HR.out.1, by show _ = _; rw [HB2.out.2.1.out, cH, if_pos ⟨rfl, htr⟩], by omega, by omega⟩
          · have hcase2 : ((¬ (1 : Int) < (l2.length : Int) - t) ∧ cH t l2 = l2) ∨ ((1 : Int) < (l2.length : Int) - t ∧ cH t l2 = l2 ∧ ∃ d r, l2 = d :: r ∧ d ≠ 0) := by
              cases l2 with
              | nil => exact .inl ⟨by simp, rfl⟩
              | cons d r =>
                by_cases hd : d = 0
                · refine .inl ⟨fun q => hgo2 ⟨r, by rw [hd], by simp only [List.length_cons] at q; omega⟩, ?_⟩
                  rw [cH, if_neg (fun q => hgo2 ⟨r, by rw [hd], q.2⟩)]
                · by_cases hq : (1 : Int) < (((d :: r).length : Nat) : Int) - t
                  · exact .inr ⟨hq, by rw [cH, if_neg (fun q => hd q.1)], d, r, rfl, hd⟩
                  · exact .inl ⟨hq, by rw [cH, if_neg (fun q => hd q.1)]⟩
            clear hgo2
            obtain ⟨wo, hwo⟩ : ∃ wo, wo = wr := ⟨_, rfl⟩
            subst hwo
            rcases hcase2 with ⟨hgq, hex⟩ | ⟨hgq, hex, d2, r2, hlm2, hd2⟩
            case' inl =>
              have HX2 : Hid _ := hex
              clear hex
              go_wp2_with fail
            case' inr =>
              have HX2 : Hid _ := hex
              clear hex
              obtain ⟨g2, o2, rfl, hg2, hcell2⟩ := HB2.out.1.cell (by rw [hlm2]; simp)
              have hlp2 : 0 < l2.length := by rw [hlm2]; simp
              have y0 := (HB.out.2.2.cell (p := ⟨g2, o2, none⟩) hg2).trans (hcell2 0 hlp2)
              have hd3 : l2[0]'hlp2 = d2 := by subst hlm2; rfl
              rw [hd3] at y0
              have hbd2 := HB2.out.1.byte d2 (by rw [hlm2]; simp)
              have hdz2 : (d2 == 0) = false := by simpa using hd2
              have HM2 : Hid _ := hlm2
              clear hlm2 hcell2 hd3
              go_wp2_with fail
            all_goals
              go_loopg [1] (t + 1 - l2.length) (fun m3 v1 wr => ∃ (l3 : List Int) (a3 : Option Addr) (c3 : Nat), v1 = .slice a3 l3.length c3 ∧ Hid (t + 1 - l3.length = m3) ∧ Below wo.heap.size wo wr ∧ BtR wr (.slice a3 l3.length c3) l3 ∧ Hid (cP t l2 = cP t l3) ∧ t ≤ l3.length ∧ l3.length ≤ 20001)
              case atStart => exact ⟨l2, _, _, rfl, rfl, Below.refl _ _, HB2.out.1.below HB.out.2.2, rfl, by omega, by omega⟩
              case round =>
                obtain ⟨l3, a3, c3, rfl, hg3, hb3, hbt3, hp3, ht3, hl3⟩ := hrel
                obtain ⟨_, hcl3, hcm3⟩ := hbt3.lim
                unfold maxLen at hcm3
                have hbw3 := HB.out.2.2.trans (hb3.mono HB.out.2.2.size)
                have HB3 : Hid _ := And.intro hbt3 (And.intro hb3 (And.intro hp3 hbw3))
                clear hbt3 hb3 hp3 hbw3
                by_cases hgo3 : l3.length = t
                · have hlt3 : (l3.length : Int) < (t : Int) + 1 := by omega
                  have hgk := hg3.out
                  obtain ⟨k, rfl⟩ : ∃ k, gk = k + 1 := ⟨gk - 1, by omega⟩
                  have HG : Hid _ := And.intro hgo3 hgk
                  clear hgo3 hgk
                  go_wp2_with (first | (at_builtin; refine wpList_app _ rfl (.tmp 49) (.tmp 50) 23 rfl wr.heap.size 5 i5 z5 1 1 Tryd.underlying23 hi5 hz0 hz1 hz3 hzc (by decide) (.slice (some ⟨wr.heap.size, 0, none⟩) 1 1) 1 [.int .u8 0] rfl (own1 wr 5 (.int .u8 0) rfl) a3 l3.length c3 (l3.map (Value.int .u8)) rfl (by simp) (src_below HB3.out.1.src ((Below.refl _ _).alloc (Nat.le_refl _) _)) (one8 l3) (by unfold maxLen; omega) (by omega) (by simp) ?_; intro v4 w4 hown4 hg4 hat4; obtain ⟨a4, c4, rfl⟩ := row_form hown4; have hb4 : Below wr.heap.size wr w4 := ((Below.refl wr.heap.size wr).alloc (Nat.le_refl _) _).grown hg4 (by simp) (fun b hb => by simp [Value.ownBlock] at hb; omega); have H4 : Hid _ := And.intro hown4 hb4; clear hown4 hg4 hat4 hb4))
                  go_roundg k
                  case measure => omega
                  case rel =>
                    have e4 : 1 + l3.length = (0 :: l3).length := by simp; omega
                    have hbt4 : BtR w4 (.slice a4 (0 :: l3).length c4) (0 :: l3) := by
                      rw [← e4]
                      exact btr_own (l := 0 :: l3) H4.out.1 e4 (fun d hd => by
                        rcases List.mem_cons.1 hd with q | q
                        · omega
                        · exact HB3.out.1.byte d q)
                    refine ⟨0 :: l3, a4, c4, by rw [← e4], ?_, HB3.out.2.1.trans (H4.out.2.mono HB3.out.2.1.size), hbt4, ?_, by simp; omega, by simp; omega⟩
                    · have := HG.out
                      show _ = _
                      simp
                      omega
                    · show _ = _
                      rw [HB3.out.2.2.1.out, cP_one HG.out.1, cP_none (by simp; have := HG.out.1; omega)]
                · have hlt3 : ¬ ((l3.length : Int) < (t : Int) + 1) := by omega
                  have hcp : cP t l2 = l3 := by rw [HB3.out.2.2.1.out, cP_none (by omega)]
                  have HCP : Hid _ := hcp
                  clear hcp hgo3
                  go_wp2_with (first | (at_builtin; refine wpList_app _ rfl (.tmp 53) (.tmp 54) 23 rfl wr.heap.size 5 i5 z5 1 1 Tryd.underlying23 hi5 hz0 hz1 hz3 hzc (by decide) (.slice (some ⟨wr.heap.size, 0, none⟩) 0 0) 0 [] rfl (emp wr 5) a3 l3.length c3 (l3.map (Value.int .u8)) rfl (by simp) (src_below HB3.out.1.src ((Below.refl _ _).alloc (Nat.le_refl _) _)) (one8 l3) (by unfold maxLen; omega) (by omega) (by simp) ?_; intro v5 w5 hown5 hg5 hat5; obtain ⟨a5, c5, rfl⟩ := row_form hown5; have hb5 : Below wr.heap.size wr w5 := ((Below.refl wr.heap.size wr).alloc (Nat.le_refl _) _).grown hg5 (by simp) (fun b hb => by simp [Value.ownBlock] at hb; omega); have H5 : Hid _ := And.intro hown5 hb5; clear hown5 hg5 hat5 hb5))
                  have hown5 : w5.ownsRow wr.heap.size 5 1 (.slice a5 l3.length c5) l3.length (l3.map (Value.int .u8)) := by simpa only [Nat.zero_add, List.nil_append] using H5.out.1
                  have hbt5 : BtR w5 (.slice a5 l3.length c5) l3 := btr_own hown5 rfl HB3.out.1.byte
                  have hbl5 := fun k hk => row_base hown5 k hk
                  have hbA : Below w5.heap.size w5 (w5.alloc (.cells #[.bool neg, .slice a5 l3.length c5, .int .i64 t] 28)) := (Below.refl _ _).alloc (Nat.le_refl _) _
                  have hT7 := nw_heap w5 (.cells #[.bool neg, .slice a5 l3.length c5, .int .i64 t] 28)
                  have hR0 : w.heap.size < wo.heap.size := by rw [HW.out]; simp
                  have hRo : wo.heap[w.heap.size]? = some (.cells #[.bool false, .slice none 0 0, .int .i64 0] 28 (0, 0)) := by rw [HW.out]; exact nw_heap _ _
                  have hsz3 := HB3.out.2.1.size
                  have hsz5 := H5.out.2.size
                  have hR5 := (H5.out.2.block _ (by omega)).trans ((HB3.out.2.1.block _ hR0).trans hRo)
                  have hRA := (hbA.block _ (lt_of hR5)).trans hR5
                  have hbw5 := HB3.out.2.2.2.trans (H5.out.2.mono HB3.out.2.2.2.size)
                  have hbwA := hbw5.trans (hbA.mono hbw5.size)
                  have hzr := zero_r (hbt5.below hbA) neg t
                  have hCC : C = (neg && !(l3.all (· == 0)), l3, t) := by
                    have e := HH.out.2.1
                    rw [HB.out.2.1.out, HX.out] at e
                    dsimp only at e
                    rw [HB2.out.2.1.out, HX2.out, HCP.out] at e
                    exact e
                  subst hCC
                  obtain ⟨az, haz⟩ : ∃ az, l3.all (· == 0) = az := ⟨_, rfl⟩
                  rw [haz] at hzr
                  have HAZ : Hid _ := haz
                  clear haz
                  have H6 : Hid _ := And.intro hbt5 (And.intro hbl5 (And.intro hbA (And.intro hT7 (And.intro hRA (And.intro hbwA hzr)))))
                  clear hown5 hbt5 hbl5 hbA hT7 hRo hR5 hRA hbw5 hbwA hzr
                  refine Calls.mono H6.out.2.2.2.2.2.2 ?_
                  rintro e w6 ⟨rfl, hb6⟩
                  have hsz6 := hb6.size
                  simp only [sza] at hsz6
                  have hT6 := (hb6.block _ (lt_of H6.out.2.2.2.1)).trans H6.out.2.2.2.1
                  have hR6 := (hb6.block _ (lt_of H6.out.2.2.2.2.1)).trans H6.out.2.2.2.2.1
                  have hbw6 := H6.out.2.2.2.2.2.1.trans (hb6.mono H6.out.2.2.2.2.2.1.size)
                  have hbt6 := (H6.out.1.below H6.out.2.2.1).below hb6
                  have hne6 : w.heap.size ≠ w5.heap.size := by omega
                  obtain ⟨k0, k1, k2⟩ := bl3 hT6
                  obtain ⟨kf0, _, _⟩ := bl3f hT6
                  obtain ⟨r0, r1, r2⟩ := bl3 hR6
                  obtain ⟨rf0, rf1, rf2⟩ := bl3f hR6
                  have H7 : Hid _ := And.intro hT6 (And.intro hR6 (And.intro hbw6 (And.intro hbt6 H6.out.2.1)))
                  clear hT6 hR6 hbw6 hbt6 hb6 H6 H5
                  cases az
                  case' false =>
                    go_wp2_with fail
                    obtain ⟨q1, q2, q3, q4⟩ := set3 H7.out.2.2.1 (Nat.le_refl _) H7.out.2.1 (.bool neg) (.slice a5 l3.length c5) (.int .i64 t)
                    have hbt9 := H7.out.2.2.2.1.kept (Nat.le_of_eq q4.symm) q3 (fun k hk hn e => by have := (H7.out.2.2.2.2 k hk).1; omega)
                    generalize (((w6.setCell ⟨w.heap.size, 0, none⟩ (.bool neg)).setCell ⟨w.heap.size, 1, none⟩ (.slice a5 l3.length c5)).setCell ⟨w.heap.size, 2, none⟩ (.int .i64 t)) = W9 at *
                    obtain ⟨y0, y1, y2⟩ := bl3 q1
                    exact bodyPost_ret (v := nmV neg (.slice a5 l3.length c5) t) (by simp [results, Tryd.results17, go_sem, y0, y1, y2]) rfl ⟨.slice a5 l3.length c5, by rw [HAZ.out]; simp, hbt9, fun k hk => by have := (H7.out.2.2.2.2 k hk).1; omega, q2⟩
                  case' true =>
                    obtain ⟨g8, t8⟩ := setC (i := 0) (.bool false) H7.out.1
                    have hR8 := grown_at g8 H7.out.2.1 (fun e => hne6 e.symm)
                    have hb8 : Below w.heap.size w (w6.setCell ⟨w5.heap.size, 0, none⟩ (.bool false)) := H7.out.2.2.1.setCell (p := ⟨w5.heap.size, 0, none⟩) (by show w.heap.size ≤ w5.heap.size; omega) _
                    have hbt8 : BtR (w6.setCell ⟨w5.heap.size, 0, none⟩ (.bool false)) (.slice a5 l3.length c5) l3 := by
                      refine H7.out.2.2.2.1.kept (X := w5.heap.size) (by simp [World.setCell]) (fun k hk => Below.heap_setCell _ _ _ _ hk) (fun k hk hn e => ?_)
                      have := (H7.out.2.2.2.2 k hk).2
                      omega
                    have H8 : Hid _ := And.intro hR8 (And.intro hb8 hbt8)
                    clear g8 t8 hR8 hb8 hbt8
                    go_wp2_with fail
                    obtain ⟨q1, q2, q3, q4⟩ := set3 H8.out.2.1 (Nat.le_refl _) H8.out.1 (.bool false) (.slice a5 l3.length c5) (.int .i64 t)
                    have hbt9 := H8.out.2.2.kept (Nat.le_of_eq q4.symm) q3 (fun k hk hn e => by have := (H7.out.2.2.2.2 k hk).1; omega)
                    generalize ((((w6.setCell ⟨w5.heap.size, 0, none⟩ (.bool false)).setCell ⟨w.heap.size, 0, none⟩ (.bool false)).setCell ⟨w.heap.size, 1, none⟩ (.slice a5 l3.length c5)).setCell ⟨w.heap.size, 2, none⟩ (.int .i64 t)) = W9 at *
                    obtain ⟨y0, y1, y2⟩ := bl3 q1
                    exact bodyPost_ret (v := nmV false (.slice a5 l3.length c5) t) (by simp [results, Tryd.results17, go_sem, y0, y1, y2]) rfl ⟨.slice a5 l3.length c5, by rw [HAZ.out]; simp, hbt9, fun k hk => by have := (H7.out.2.2.2.2 k hk).1; omega, q2⟩
end Go.Proofs.YtakemkhgaicckaaDoor
