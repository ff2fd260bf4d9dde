/- The program: canonical. -/
import Derived.Test.YtgaegajcejpmdaaGreatDoorHDcD1
namespace Go.Proofs.YtgaegajcejpmdaaGreatDoor.Dc
open Go.RowKit
set_option linter.unusedVariables false

abbrev zP : Obj := .cells #[.bool false, .slice none 0 0, .int .i64 0] 34
set_option maxRecDepth 100000 in
set_option maxHeartbeats 6400000 in
theorem canon_p {w : World} {v : Value} {l : List Int} (h : BtR w v l) (hdg : Dg l) (neg : Bool) (s : Nat) (hs : s + 1 ≤ l.length) (hl : l.length ≤ 20000) : Calls Tryz.prog 107 #[.bool neg, v, .int .i64 s] w fun e w' => ∃ rv, e = .returned (nmV (canS neg l s).1 rv (canS neg l s).2.2) ∧ BtR w' rv (canS neg l s).2.1 ∧ (∀ k, rv.ownBlock = some k → w.heap.size < k) ∧ Below w.heap.size w w' := by
  obtain ⟨va, vc, rfl, _, _⟩ := h.form
  have hc := can_pr neg hdg hs
  generalize canS neg l s = C at *
  have hb0 : Below w.heap.size w (w.alloc zP) := (Below.refl _ _).alloc (Nat.le_refl _) _
  have HH : Hid _ := And.intro h (And.intro hc hb0)
  clear h hc hb0 hdg
  go_enter Tryz.func107, Tryz.ntmps107
  go_wp2_with fail
  go_loopg [1, 2] s (fun m v1 v2 wr => ∃ (l1 : List Int) (a : Option Addr) (c : Nat), v1 = .slice a l1.length c ∧ v2 = .int .i64 m ∧ wr = w.alloc zP ∧ BtR w (.slice a l1.length c) l1 ∧ m + 1 ≤ l1.length ∧ l1.length ≤ 20000 ∧ Hid (cT s l = cT m l1))
  case atStart => exact ⟨l, va, vc, rfl, rfl, rfl, HH.out.1, hs, hl, rfl⟩
  case round =>
    obtain ⟨l1, a, c, rfl, rfl, hwr, hb1, hm1, hl1, hct⟩ := hrel
    have HW : Hid _ := hwr
    have hwb : Below w.heap.size w wr := by rw [hwr]; exact HH.out.2.2
    clear hwr
    obtain ⟨_, hcl, hcm⟩ := hb1.lim
    unfold maxLen at hcm
    have HB : Hid _ := And.intro hb1 (And.intro hct hwb)
    clear hb1 hct hwb
    by_cases hgo : ∃ (k : Nat) (m : List Int), gk = k + 1 ∧ l1 = m ++ [0]
    · obtain ⟨k, m, rfl, rfl⟩ := hgo
      obtain ⟨g, o, rfl, hg, hcell⟩ := HB.out.1.cell (by simp)
      have x0 := (HB.out.2.2.cell (p := ⟨g, o + m.length, none⟩) hg).trans (hcell m.length (by simp))
      simp only [List.getElem_concat_length] at x0
      simp only [List.length_append, List.length_cons, List.length_nil, Nat.zero_add] at *
      have e1 : ((m.length + 1 : Nat) : Int) - 1 = m.length := by omega
      have hbi := HB.out.1
      have HB2 : Hid _ := hbi.init
      clear hcell hbi
      go_wp2_with fail
      go_roundg k
      case measure => omega
      case rel => exact ⟨m, _, c, by simp, by simp, HW.out, HB2.out, by omega, by omega, by show _ = _; rw [HB.out.2.1.out, cT_last rfl, if_pos rfl]⟩
    · obtain ⟨t, ht⟩ : ∃ t, t = gk := ⟨_, rfl⟩
      subst ht
      have hcase : ((¬ (0 : Int) < (t : Int)) ∧ cT t l1 = (l1, t)) ∨ ((0 : Int) < (t : Int) ∧ cT t l1 = (l1, t) ∧ ∃ m d, l1 = m ++ [d] ∧ d ≠ 0) := by
        rcases t with _ | k
        · exact .inl ⟨by omega, rfl⟩
        · obtain ⟨m, d, hm, _, _⟩ := last_mod (l := l1) (fun e => by rw [e] at hm1; simp at hm1)
          have hd : d ≠ 0 := fun e => hgo ⟨k, m, rfl, by rw [hm, e]⟩
          exact .inr ⟨by omega, by rw [cT_last hm, if_neg hd], m, d, hm, hd⟩
      clear hgo
      obtain ⟨wo, hwo⟩ : ∃ wo, wo = wr := ⟨_, rfl⟩
      subst hwo
      rcases hcase with ⟨hgp, hex⟩ | ⟨hgp, hex, m, d, hlm, hd0⟩
      case' inl =>
        have HX : Hid _ := hex
        clear hex
        go_wp2_with fail
      case' inr =>
        have HX : Hid _ := hex
        clear hex
        obtain ⟨g, o, rfl, hg, hcell⟩ := HB.out.1.cell (by rw [hlm]; simp)
        have hl2 : l1.length = m.length + 1 := by rw [hlm]; simp
        have x0 := (HB.out.2.2.cell (p := ⟨g, o + m.length, none⟩) hg).trans (hcell m.length (by omega))
        have hd1 : l1[m.length]'(by omega) = d := by
          subst hlm
          simp
        rw [hd1] at x0
        have hbd := HB.out.1.byte d (by rw [hlm]; simp)
        have e1 : ((l1.length : Nat) : Int) - 1 = m.length := by omega
        have hdz : (d == 0) = false := by simpa using hd0
        have hml : m.length < l1.length := by omega
        have HM : Hid _ := hlm
        clear hlm hl2 hcell hd1
        go_wp2_with fail
      all_goals
        go_loopg [1] l1.length (fun m2 v1 wr => ∃ (l2 : List Int) (a2 : Option Addr) (c2 : Nat), v1 = .slice a2 l2.length c2 ∧ Hid (l2.length = m2) ∧ wr = wo ∧ BtR w (.slice a2 l2.length c2) l2 ∧ Hid (cH t l1 = cH t l2) ∧ t + 1 ≤ l2.length ∧ l2.length ≤ 20000)
        case atStart => exact ⟨l1, _, c, rfl, rfl, rfl, HB.out.1, rfl, hm1, hl1⟩
        case round =>
          obtain ⟨l2, a2, c2, rfl, hg2, hwr2, hbt2, hh2, ht2, hl2⟩ := hrel
          subst hwr2
          obtain ⟨_, hcl2, hcm2⟩ := hbt2.lim
          unfold maxLen at hcm2
          have HB2 : Hid _ := And.intro hbt2 (And.intro hh2 hg2)
          clear hbt2 hh2 hg2
          by_cases hgo2 : ∃ r, l2 = 0 :: r ∧ t < r.length
          · obtain ⟨r, rfl, htr⟩ := hgo2
            obtain ⟨g2, o2, rfl, hg2, hcell2⟩ := HB2.out.1.cell (by simp)
            have y0 := (HB.out.2.2.cell (p := ⟨g2, o2, none⟩) hg2).trans (hcell2 0 (by simp))
            simp only [List.getElem_cons_zero] at y0
            have hgk := HB2.out.2.2.out
            simp only [List.length_cons] at *
            obtain ⟨k, rfl⟩ : ∃ k, gk = k + 1 := ⟨gk - 1, by omega⟩
            have hc2 : (t : Int) + 1 < ((r.length + 1 : Nat) : Int) := by omega
            have HR : Hid _ := And.intro HB2.out.1.rest hgk
            clear hcell2 hgk
            go_wp2_with fail
            go_roundg k
            case measure => omega
            case rel => exact ⟨r, _, _, by simp, by have := HR.out.2; show _ = _; omega, rfl, HR.out.1, by show _ = _; rw [HB2.out.2.1.out, cH, if_pos ⟨rfl, htr⟩], by omega, by omega⟩
          · have hcase2 : ((¬ (t : Int) + 1 < (l2.length : Int)) ∧ cH t l2 = l2) ∨ ((t : Int) + 1 < (l2.length : Int) ∧ cH t l2 = l2 ∧ ∃ d r, l2 = d :: r ∧ d ≠ 0) := by
              cases l2 with
              | nil => exact .inl ⟨by simp; omega, rfl⟩
              | cons d r =>
                by_cases hd : d = 0
                · refine .inl ⟨fun q => hgo2 ⟨r, by rw [hd], by simp only [List.length_cons] at q; omega⟩, ?_⟩
                  rw [cH, if_neg (fun q => hgo2 ⟨r, by rw [hd], q.2⟩)]
                · by_cases hq : (t : Int) + 1 < (((d :: r).length : Nat) : Int)
                  · exact .inr ⟨hq, by rw [cH, if_neg (fun q => hd q.1)], d, r, rfl, hd⟩
                  · exact .inl ⟨hq, by rw [cH, if_neg (fun q => hd q.1)]⟩
            clear hgo2
            have hl2n : l2 ≠ [] := fun e => by rw [e] at ht2; simp at ht2
            obtain ⟨wo, hwo⟩ : ∃ wo, wo = wr := ⟨_, rfl⟩
            subst hwo
            have hcl := clone_p (HB2.out.1.below HB.out.2.2) hl2n hl2
            have HCL : Hid _ := And.intro hcl trivial
            clear hcl
            rcases hcase2 with ⟨hgq, hex⟩ | ⟨hgq, hex, d2, r2, hlm2, hd2⟩
            case' inl =>
              have HX2 : Hid _ := hex
              clear hex
              go_wp2_with fail
            case' inr =>
              have HX2 : Hid _ := hex
              clear hex
              obtain ⟨g2, o2, rfl, hg2, hcell2⟩ := HB2.out.1.cell (by rw [hlm2]; simp)
              have hlp2 : 0 < l2.length := by rw [hlm2]; simp
              have y0 := (HB.out.2.2.cell (p := ⟨g2, o2, none⟩) hg2).trans (hcell2 0 hlp2)
              have hd3 : l2[0]'hlp2 = d2 := by subst hlm2; rfl
              rw [hd3] at y0
              have hbd2 := HB2.out.1.byte d2 (by rw [hlm2]; simp)
              have hdz2 : (d2 == 0) = false := by simpa using hd2
              have HM2 : Hid _ := hlm2
              clear hlm2 hcell2 hd3
              go_wp2_with fail
            all_goals
              refine Calls.mono HCL.out.1 ?_
              rintro e w5 ⟨a5, c5, rfl, hbt5, hbl5, hb5⟩
              have hbA : Below w5.heap.size w5 (w5.alloc (.cells #[.bool false, .slice a5 l2.length c5, .int .i64 t] 34)) := (Below.refl _ _).alloc (Nat.le_refl _) _
              have hT7 := nw_heap w5 (.cells #[.bool false, .slice a5 l2.length c5, .int .i64 t] 34)
              have hR0 : w.heap.size < wo.heap.size := by rw [HW.out]; simp
              have hRo : wo.heap[w.heap.size]? = some (.cells #[.bool false, .slice none 0 0, .int .i64 0] 34 (0, 0)) := by rw [HW.out]; exact nw_heap _ _
              have hsz5 := hb5.size
              have hR5 := (hb5.block _ hR0).trans hRo
              have hRA := (hbA.block _ (lt_of hR5)).trans hR5
              have hbw5 := HB.out.2.2.trans (hb5.mono HB.out.2.2.size)
              have hbwA := hbw5.trans (hbA.mono hbw5.size)
              have hzr := nought_p (hbt5.below hbA) false t
              have hCC : C = (neg && !(noS l2), l2, t) := by
                have e := HH.out.2.1
                rw [HB.out.2.1.out, HX.out] at e
                dsimp only at e
                rw [HB2.out.2.1.out, HX2.out] at e
                exact e
              subst hCC
              obtain ⟨az, haz⟩ : ∃ az, noS l2 = az := ⟨_, rfl⟩
              rw [haz] at hzr
              have HAZ : Hid _ := haz
              clear haz
              have H6 : Hid _ := And.intro hbt5 (And.intro hbl5 (And.intro hbA (And.intro hT7 (And.intro (And.intro hR5 hRA) (And.intro (And.intro hbw5 hbwA) hzr)))))
              clear hbt5 hbl5 hbA hT7 hRo hR5 hRA hbw5 hbwA hzr hb5
              have hne6 : w.heap.size ≠ w5.heap.size := by omega
              have hlt6 : w.heap.size < w5.heap.size := by omega
              cases neg
              case' false =>
                obtain ⟨r0, r1, r2⟩ := bl3 H6.out.2.2.2.2.1.1
                obtain ⟨rf0, rf1, rf2⟩ := bl3f H6.out.2.2.2.2.1.1
                go_wp2_with fail
                obtain ⟨q1, q2, q3, q4⟩ := set3 H6.out.2.2.2.2.2.1.1 (Nat.le_refl _) H6.out.2.2.2.2.1.1 (.bool false) (.slice a5 l2.length c5) (.int .i64 t)
                have hbt9 := H6.out.1.kept (Nat.le_of_eq q4.symm) q3 (fun k hk hn e => by have := (H6.out.2.1 k hk).1; omega)
                generalize (((w5.setCell ⟨w.heap.size, 0, none⟩ (.bool false)).setCell ⟨w.heap.size, 1, none⟩ (.slice a5 l2.length c5)).setCell ⟨w.heap.size, 2, none⟩ (.int .i64 t)) = W9 at *
                have hbX : Below W9.heap.size W9 (W9.alloc (.cells #[.bool false, .slice a5 l2.length c5, .int .i64 t] 34)) := (Below.refl _ _).alloc (Nat.le_refl _) _
                obtain ⟨y0, y1, y2⟩ := bl3 ((hbX.block _ (lt_of q1)).trans q1)
                have hbt10 := hbt9.below hbX
                have hb10 := q2.trans (hbX.mono q2.size)
                generalize (W9.alloc (.cells #[.bool false, .slice a5 l2.length c5, .int .i64 t] 34)) = W10 at *
                exact bodyPost_ret (v := nmV false (.slice a5 l2.length c5) t) (by simp [results, Tryz.results107, go_sem, y0, y1, y2]) rfl ⟨.slice a5 l2.length c5, rfl, hbt10, fun k hk => by have := (H6.out.2.1 k hk).1; omega, hb10⟩
              case' true =>
                go_wp2_with fail
                refine Calls.mono H6.out.2.2.2.2.2.2 ?_
                rintro e w6 ⟨rfl, hb6⟩
                have hsz6 := hb6.size
                simp only [sza] at hsz6
                have hT6 := (hb6.block _ (lt_of H6.out.2.2.2.1)).trans H6.out.2.2.2.1
                have hR6 := (hb6.block _ (lt_of H6.out.2.2.2.2.1.2)).trans H6.out.2.2.2.2.1.2
                have hbw6 := H6.out.2.2.2.2.2.1.2.trans (hb6.mono H6.out.2.2.2.2.2.1.2.size)
                have hbt6 := (H6.out.1.below H6.out.2.2.1).below hb6
                obtain ⟨k0, k1, k2⟩ := bl3 hT6
                obtain ⟨kf0, _, _⟩ := bl3f hT6
                obtain ⟨r0, r1, r2⟩ := bl3 hR6
                obtain ⟨rf0, rf1, rf2⟩ := bl3f hR6
                have H7 : Hid _ := And.intro hT6 (And.intro hR6 (And.intro hbw6 (And.intro hbt6 H6.out.2.1)))
                clear hT6 hR6 hbw6 hbt6 hb6 H6
                obtain ⟨g8, t8⟩ := setC (i := 0) (.bool (!az)) H7.out.1
                have hR8 := grown_at g8 H7.out.2.1 (fun e => hne6 e.symm)
                have hb8 : Below w.heap.size w (w6.setCell ⟨w5.heap.size, 0, none⟩ (.bool (!az))) := H7.out.2.2.1.setCell (p := ⟨w5.heap.size, 0, none⟩) (by show w.heap.size ≤ w5.heap.size; omega) _
                have hbt8 : BtR (w6.setCell ⟨w5.heap.size, 0, none⟩ (.bool (!az))) (.slice a5 l2.length c5) l2 := by
                  refine H7.out.2.2.2.1.kept (X := w5.heap.size) (by simp [World.setCell]) (fun k hk => Below.heap_setCell _ _ _ _ hk) (fun k hk hn e => ?_)
                  have := (H7.out.2.2.2.2 k hk).2
                  omega
                have H8 : Hid _ := And.intro hR8 (And.intro hb8 hbt8)
                clear g8 t8 hR8 hb8 hbt8
                go_wp2_with fail
                obtain ⟨q1, q2, q3, q4⟩ := set3 H8.out.2.1 (Nat.le_refl _) H8.out.1 (.bool (!az)) (.slice a5 l2.length c5) (.int .i64 t)
                have hbt9 := H8.out.2.2.kept (Nat.le_of_eq q4.symm) q3 (fun k hk hn e => by have := (H7.out.2.2.2.2 k hk).1; omega)
                generalize ((((w6.setCell ⟨w5.heap.size, 0, none⟩ (.bool (!az))).setCell ⟨w.heap.size, 0, none⟩ (.bool (!az))).setCell ⟨w.heap.size, 1, none⟩ (.slice a5 l2.length c5)).setCell ⟨w.heap.size, 2, none⟩ (.int .i64 t)) = W9 at *
                obtain ⟨y0, y1, y2⟩ := bl3 q1
                exact bodyPost_ret (v := nmV (!az) (.slice a5 l2.length c5) t) (by simp [results, Tryz.results107, go_sem, y0, y1, y2]) rfl ⟨.slice a5 l2.length c5, by rw [HAZ.out], hbt9, fun k hk => by have := (H7.out.2.2.2.2 k hk).1; omega, q2⟩
end Go.Proofs.YtgaegajcejpmdaaGreatDoor.Dc
