/- The second telling: digit, high, Total, size, Cmp. -/
import Derived.Test.YtgaegajcejpmdaaGreatDoorHDcB0
namespace Go.Proofs.YtgaegajcejpmdaaGreatDoor.Dc
open Go.RowKit
set_option linter.unusedVariables false

theorem digit_r {w : World} {v : Value} {l : List Int} (h : BtR w v l) (neg : Bool) (sc p : Int) (hs0 : 0 ≤ sc) (hs1 : sc ≤ 10000) (hp0 : -10000 ≤ p) (hp1 : p ≤ 10000) (hl : l.length ≤ 10000) : Calls Tryz.prog 141 #[nmV neg v sc, .int .i64 p] w fun e w' => e = .returned (.int .i64 (dgS l sc p)) ∧ Below w.heap.size w w' := by
  have hb0 : ∀ o, Below w.heap.size w (w.alloc o) := fun o => (Below.refl _ _).alloc (Nat.le_refl _) _
  obtain ⟨a, cap, rfl, h1, h2, h3, h4⟩ := h
  unfold maxLen at h2
  have HL : Hid _ := And.intro h3 (And.intro h4 hb0)
  clear h3 h4 hb0
  have cb := bl3 (nw_heap w (.cells #[.bool neg, .slice a l.length cap, .int .i64 sc] 43))
  have HD : Hid (dgS l sc p = if (l.length : Int) - sc - 1 - p < 0 ∨ (l.length : Int) ≤ (l.length : Int) - sc - 1 - p then 0 else l.getD ((l.length : Int) - sc - 1 - p).toNat 0) := rfl
  generalize dgS l sc p = R at *
  by_cases c1 : (l.length : Int) - sc - 1 - p < 0
  · have hR : R = 0 := by rw [HD.out, if_pos (.inl c1)]
    subst hR
    go_enter Tryz.func141, Tryz.ntmps141
    go_wp2_with fail
    go_ret
    exact ⟨rfl, HL.out.2.2 _⟩
  · by_cases c2 : (l.length : Int) ≤ (l.length : Int) - sc - 1 - p
    · have hR : R = 0 := by rw [HD.out, if_pos (.inr c2)]
      subst hR
      go_enter Tryz.func141, Tryz.ntmps141
      go_wp2_with fail
      go_ret
      exact ⟨rfl, HL.out.2.2 _⟩
    · have hR : R = l.getD ((l.length : Int) - sc - 1 - p).toNat 0 := by rw [HD.out, if_neg (by omega)]
      have hk : ((l.length : Int) - sc - 1 - p).toNat < l.length := by omega
      rcases HL.out.2.1 with he | ⟨g, o, rfl, hg, hc⟩
      · rw [he] at hk; simp at hk
      have q0 := hc _ hk
      have x0 := ((HL.out.2.2 (.cells #[.bool neg, .slice (some ⟨g, o, none⟩) l.length cap, .int .i64 sc] 43)).cell (p := ⟨g, o + ((l.length : Int) - sc - 1 - p).toNat, none⟩) hg).trans q0
      have hbd := HL.out.1 _ (List.getElem_mem hk)
      have hR2 : R = l[((l.length : Int) - sc - 1 - p).toNat]'hk := by rw [hR, List.getD_eq_getElem?_getD, List.getElem?_eq_getElem hk]; rfl
      rw [← hR2] at x0 hbd
      clear hR hR2 hc q0 HD
      obtain ⟨hbd1, hbd2⟩ := hbd
      go_enter Tryz.func141, Tryz.ntmps141
      go_wp2_with fail
      go_ret
      exact ⟨rfl, HL.out.2.2 _⟩
theorem high_r {w : World} {v v' : Value} {l l' : List Int} (h : BtR w v l) (h' : BtR w v' l') (neg neg' : Bool) (sc sc' : Nat) (hs : sc ≤ l.length) (hs' : sc' ≤ l'.length) (hl : l.length ≤ 10000) (hl' : l'.length ≤ 10000) :
    Calls Tryz.prog 140 #[nmV neg v sc, nmV neg' v' sc'] w fun e w' => e = .returned (.tuple #[.int .i64 (max (l.length - sc) (l'.length - sc') : Nat), .int .i64 (max sc sc' : Nat)]) ∧ Below w.heap.size w w' := by
  have hb0 : ∀ o o', Below w.heap.size w ((w.alloc o).alloc o') := fun o o' => ((Below.refl _ _).alloc (Nat.le_refl _) o).alloc (by simp) o'
  obtain ⟨a, cap, rfl, h1, h2, h3, h4⟩ := h
  obtain ⟨a', cap', rfl, h1', h2', h3', h4'⟩ := h'
  clear h3 h4 h3' h4'
  unfold maxLen at h2 h2'
  have x1 := bl3 (xa2 w (.cells #[.bool neg, .slice a l.length cap, .int .i64 sc] 43) (.cells #[.bool neg', .slice a' l'.length cap', .int .i64 sc'] 43))
  have x2 : ((w.alloc (.cells #[.bool neg, .slice a l.length cap, .int .i64 sc] 43)).alloc (.cells #[.bool neg', .slice a' l'.length cap', .int .i64 sc'] 43)).heap[w.heap.size + 1]? = some (.cells #[.bool neg', .slice a' l'.length cap', .int .i64 sc'] 43 (0, 0)) := by
    have := nw_heap (w.alloc (.cells #[.bool neg, .slice a l.length cap, .int .i64 sc] 43)) (.cells #[.bool neg', .slice a' l'.length cap', .int .i64 sc'] 43)
    rwa [sza] at this
  have x3 := bl3 x2
  have HB : Hid _ := hb0 (.cells #[.bool neg, .slice a l.length cap, .int .i64 sc] 43) (.cells #[.bool neg', .slice a' l'.length cap', .int .i64 sc'] 43)
  clear hb0 x2
  have e1 : ((max (l.length - sc) (l'.length - sc') : Nat) : Int) = if (l.length : Int) - sc < (l'.length : Int) - sc' then (l'.length : Int) - sc' else (l.length : Int) - sc := by split <;> omega
  have e2 : ((max sc sc' : Nat) : Int) = if (sc : Int) < sc' then (sc' : Int) else sc := by split <;> omega
  rw [e1, e2]
  clear e1 e2
  obtain ⟨_, x11, x12⟩ := x1
  obtain ⟨_, x31, x32⟩ := x3
  by_cases c1 : (l.length : Int) - sc < (l'.length : Int) - sc' <;> by_cases c2 : (sc : Int) < sc'
  all_goals
    have c1b := c1
    have c2b := c2
    first | rw [if_pos c1] | rw [if_neg c1]
    first | rw [if_pos c2] | rw [if_neg c2]
    clear c1b c2b
    go_enter Tryz.func140, Tryz.ntmps140
    go_wp2_with fail
    go_ret2
    exact ⟨rfl, HB.out⟩
theorem digit_n {w : World} {v : Value} {n : Nm} (h : NmR w v n) (p : Int) (hp0 : -10000 ≤ p) (hp1 : p ≤ 10000) : Calls Tryz.prog 141 #[nmV n.1 v n.2.2, .int .i64 p] w fun e w' => e = .returned (.int .i64 (dgS n.2.1 n.2.2 p)) ∧ Below w.heap.size w w' := by
  have h1 := h.cn.1.len
  have h2 := h.le
  exact digit_r h.bt n.1 n.2.2 p (by omega) (by omega) hp0 hp1 (by omega)
set_option maxRecDepth 100000 in
set_option maxHeartbeats 3200000 in
theorem size_r {w : World} {v v' : Value} {a b : Nm} (ha : NmR w v a) (hb : NmR w v' b) : Calls Tryz.prog 92 #[nmV a.1 v a.2.2, nmV b.1 v' b.2.2] w fun e w' => e = .returned (.int .i64 (szS a b)) ∧ Below w.heap.size w w' := by
  obtain ⟨x1, x2, x3⟩ := box2 w (.bool a.1) v (.int .i64 a.2.2) (.bool b.1) v' (.int .i64 b.2.2)
  obtain ⟨e1, e2, _⟩ := ex_ok ha.cn hb.cn
  have la := ha.cn.1.len
  have lb := hb.cn.1.len
  have za := ha.le
  have zb := hb.le
  obtain ⟨va, vc, rfl, _⟩ := ha.bt.form
  obtain ⟨va', vc', rfl, _⟩ := hb.bt.form
  have hH := fun W (hW : Below w.heap.size w W) => high_r (ha.bt.below hW) (hb.bt.below hW) a.1 b.1 a.2.2 b.2.2 (by omega) (by omega) (by omega) (by omega)
  have hX : hiX a b = max (a.2.1.length - a.2.2) (b.2.1.length - b.2.2) := rfl
  have hSs : hiS a b = max a.2.2 b.2.2 := rfl
  rw [← hX, ← hSs] at hH
  have dA : ∀ j, j < hiX a b + 1 + hiS a b → dgS a.2.1 a.2.2 ((hiX a b : Int) - j) = (exA a b).getD j 0 := fun j hj => dg_ext (by omega) (by rw [hX]; omega) (by rw [hSs]; omega) hj
  have dB : ∀ j, j < hiX a b + 1 + hiS a b → dgS b.2.1 b.2.2 ((hiX a b : Int) - j) = (exB a b).getD j 0 := fun j hj => dg_ext (by omega) (by rw [hX]; omega) (by rw [hSs]; omega) hj
  have hXl : hiX a b ≤ 4096 := by rw [hX]; omega
  have hSl : hiS a b ≤ 4096 := by rw [hSs]; omega
  have hDA := fun W (hW : Below w.heap.size w W) p (h0 : -10000 ≤ p) (h1 : p ≤ 10000) => digit_n (ha.below hW) p h0 h1
  have hDB := fun W (hW : Below w.heap.size w W) p (h0 : -10000 ≤ p) (h1 : p ≤ 10000) => digit_n (hb.below hW) p h0 h1
  have hsz : szS a b = lexS (exA a b) (exB a b) := rfl
  generalize hiX a b = X at *
  generalize hiS a b = s at *
  generalize exA a b = EA at *
  generalize exB a b = EB at *
  generalize szS a b = R at *
  have HH : Hid _ := And.intro dA (And.intro dB (And.intro hDA (And.intro hDB (And.intro hsz (And.intro x1 (And.intro x2 (And.intro x3 (And.intro e1 (And.intro e2 hH)))))))))
  obtain ⟨b10, b11, b12⟩ := bl3 x1
  obtain ⟨b20, b21, b22⟩ := bl3 x2
  clear dA dB hDA hDB hsz x1 x2 x3 e1 e2 hH hX hSs la lb za zb ha hb
  obtain ⟨an, al, asc⟩ := a
  obtain ⟨bn, bl', bsc⟩ := b
  dsimp only at *
  go_enter Tryz.func92, Tryz.ntmps92
  go_wp2_with fail
  refine Calls.mono (HH.out.2.2.2.2.2.2.2.2.2.2 _ HH.out.2.2.2.2.2.2.2.1) ?_
  rintro e w2 ⟨rfl, hb2⟩
  have hbw2 := HH.out.2.2.2.2.2.2.2.1.trans (hb2.mono (by simp only [sza]; omega))
  have y1 := (hb2.block _ (lt_of HH.out.2.2.2.2.2.1)).trans HH.out.2.2.2.2.2.1
  have y2 := (hb2.block _ (lt_of HH.out.2.2.2.2.2.2.1)).trans HH.out.2.2.2.2.2.2.1
  have H2 : Hid _ := And.intro hbw2 (And.intro y1 y2)
  clear hb2 hbw2 y1 y2 b10 b11 b12 b20 b21 b22
  go_wp2_with fail
  go_loopg [7] (X + 1 + s) (fun m v7 wr => ∃ j : Nat, v7 = .int .i64 ((X : Int) - j) ∧ j + m = X + 1 + s ∧ Hid (R = lexS (EA.drop j) (EB.drop j)) ∧ Below w2.heap.size w2 wr)
  case atStart => exact ⟨0, by simp, by omega, HH.out.2.2.2.2.1, Below.refl _ _⟩
  case round =>
    obtain ⟨j, rfl, hjm, hR, hbr⟩ := hrel
    have hbw := H2.out.1.trans (hbr.mono H2.out.1.size)
    by_cases hj : j < X + 1 + s
    · obtain ⟨m, rfl⟩ : ∃ m, gk = m + 1 := ⟨gk - 1, by omega⟩
      have hj1 : (0 : Int) - s ≤ (X : Int) - j := by omega
      obtain ⟨b10, b11, b12⟩ := bl3 ((hbr.block _ (lt_of H2.out.2.1)).trans H2.out.2.1)
      obtain ⟨b20, b21, b22⟩ := bl3 ((hbr.block _ (lt_of H2.out.2.2)).trans H2.out.2.2)
      have hlt1 := lt_of ((hbr.block _ (lt_of H2.out.2.1)).trans H2.out.2.1)
      have hlt2 := lt_of ((hbr.block _ (lt_of H2.out.2.2)).trans H2.out.2.2)
      have hlx := lex_drop (a := EA) (b := EB) (j := j) (by rw [HH.out.2.2.2.2.2.2.2.2.1]; exact hj) (by rw [HH.out.2.2.2.2.2.2.2.2.2.1]; exact hj)
      have gA := fun W (hW : Below w.heap.size w W) => HH.out.2.2.1 W hW ((X : Int) - j) (by omega) (by omega)
      have gB := fun W (hW : Below w.heap.size w W) => HH.out.2.2.2.1 W hW ((X : Int) - j) (by omega) (by omega)
      rw [HH.out.1 j hj] at gA
      rw [HH.out.2.1 j hj] at gB
      generalize EA.getD j 0 = p at *
      generalize EB.getD j 0 = q at *
      have hkeep : ∀ W', Below wr.heap.size wr W' → (W'.cell? ⟨w.heap.size, 0, none⟩ = some (.bool an) ∧ W'.cell? ⟨w.heap.size, 1, none⟩ = some (.slice va al.length vc) ∧ W'.cell? ⟨w.heap.size, 2, none⟩ = some (.int .i64 asc)) ∧ (W'.cell? ⟨w.heap.size + 1, 0, none⟩ = some (.bool bn) ∧ W'.cell? ⟨w.heap.size + 1, 1, none⟩ = some (.slice va' bl'.length vc') ∧ W'.cell? ⟨w.heap.size + 1, 2, none⟩ = some (.int .i64 bsc)) := fun W' hb => ⟨⟨(hb.cell (p := ⟨w.heap.size, 0, none⟩) hlt1).trans b10, (hb.cell (p := ⟨w.heap.size, 1, none⟩) hlt1).trans b11, (hb.cell (p := ⟨w.heap.size, 2, none⟩) hlt1).trans b12⟩, (hb.cell (p := ⟨w.heap.size + 1, 0, none⟩) hlt2).trans b20, (hb.cell (p := ⟨w.heap.size + 1, 1, none⟩) hlt2).trans b21, (hb.cell (p := ⟨w.heap.size + 1, 2, none⟩) hlt2).trans b22⟩
      have gA' := fun W (hW : Below wr.heap.size wr W) => gA W (hbw.trans (hW.mono hbw.size))
      have gB' := fun W (hW : Below wr.heap.size wr W) => gB W (hbw.trans (hW.mono hbw.size))
      have HI : Hid _ := And.intro gA' (And.intro gB' (And.intro hlx (And.intro hbw (And.intro hbr hR))))
      have HK : Hid _ := hkeep
      have HB0 : Hid (Below wr.heap.size wr wr.drew) := Below.drewN' 1
      clear gA gB gA' gB' hlx hbw hbr hkeep hR
      by_cases hpq : p = q
      · subst hpq
        go_wp2_with fail
        go_region_held3 (fun W => W.cell? ⟨w.heap.size, 0, none⟩ = some (.bool an) ∧ W.cell? ⟨w.heap.size, 1, none⟩ = some (.slice va al.length vc) ∧ W.cell? ⟨w.heap.size, 2, none⟩ = some (.int .i64 asc) ∧ W.cell? ⟨w.heap.size + 1, 0, none⟩ = some (.bool bn) ∧ W.cell? ⟨w.heap.size + 1, 1, none⟩ = some (.slice va' bl'.length vc') ∧ W.cell? ⟨w.heap.size + 1, 2, none⟩ = some (.int .i64 bsc)) (go_keep) (first
          | (go_at_call 141; (with_reducible refine Calls.mono (HI.out.1 _ (by first | exact HBB1.out | exact HB0.out)) ?_); rintro e wA1 ⟨rfl, hbA⟩; have hbb : Below wr.heap.size wr wA1 := Below.trans (by first | exact HBB1.out | exact HB0.out) (hbA.mono (Below.size (by first | exact HBB1.out | exact HB0.out))); obtain ⟨⟨g0, g1, g2⟩, g3, g4, g5⟩ := HK.out _ hbb; have HBA1 : Hid _ := hbb; clear hbb hbA)
          | (go_at_call 141; (with_reducible refine Calls.mono (HI.out.2.1 _ (by first | exact HBA1.out | exact HB0.out)) ?_); rintro e wB1 ⟨rfl, hbB⟩; have hbb : Below wr.heap.size wr wB1 := Below.trans (by first | exact HBA1.out | exact HB0.out) (hbB.mono (Below.size (by first | exact HBA1.out | exact HB0.out))); obtain ⟨⟨g0, g1, g2⟩, g3, g4, g5⟩ := HK.out _ hbb; have HBB1 : Hid _ := hbb; clear hbb hbB))
        all_goals
          go_wp2_with fail
          go_roundg m
          case measure => omega
          case rel => exact ⟨j + 1, by simp; omega, by omega, by show _ = _; rw [HI.out.2.2.2.2.2.out, HI.out.2.2.1]; simp, HI.out.2.2.2.2.1.trans (Below.mono (by first | exact HBA1.out | exact HBB1.out) HI.out.2.2.2.2.1.size)⟩
      · have hne : (p == q) = false := by simpa using hpq
        go_wp2_with fail
        go_region_held3 (fun W => W.cell? ⟨w.heap.size, 0, none⟩ = some (.bool an) ∧ W.cell? ⟨w.heap.size, 1, none⟩ = some (.slice va al.length vc) ∧ W.cell? ⟨w.heap.size, 2, none⟩ = some (.int .i64 asc) ∧ W.cell? ⟨w.heap.size + 1, 0, none⟩ = some (.bool bn) ∧ W.cell? ⟨w.heap.size + 1, 1, none⟩ = some (.slice va' bl'.length vc') ∧ W.cell? ⟨w.heap.size + 1, 2, none⟩ = some (.int .i64 bsc)) (go_keep) (first
          | (go_at_call 141; (with_reducible refine Calls.mono (HI.out.1 _ (by first | exact HBB1.out | exact HB0.out)) ?_); rintro e wA1 ⟨rfl, hbA⟩; have hbb : Below wr.heap.size wr wA1 := Below.trans (by first | exact HBB1.out | exact HB0.out) (hbA.mono (Below.size (by first | exact HBB1.out | exact HB0.out))); obtain ⟨⟨g0, g1, g2⟩, g3, g4, g5⟩ := HK.out _ hbb; have HBA1 : Hid _ := hbb; clear hbb hbA)
          | (go_at_call 141; (with_reducible refine Calls.mono (HI.out.2.1 _ (by first | exact HBA1.out | exact HB0.out)) ?_); rintro e wB1 ⟨rfl, hbB⟩; have hbb : Below wr.heap.size wr wB1 := Below.trans (by first | exact HBA1.out | exact HB0.out) (hbB.mono (Below.size (by first | exact HBA1.out | exact HB0.out))); obtain ⟨⟨g0, g1, g2⟩, g3, g4, g5⟩ := HK.out _ hbb; have HBB1 : Hid _ := hbb; clear hbb hbB))
        have HB9 : Hid (Below wr.heap.size wr wB1.drew) := HBB1.out.trans ((Below.drewN' 1).mono HBB1.out.size)
        have eR : Hid (R = if p < q then -1 else 1) := by
          show _ = _
          rw [HI.out.2.2.2.2.2.out, HI.out.2.2.1, if_neg hpq]
        by_cases hlt : p < q
        · go_wp2_with fail
          go_region_held3 (fun W => W.cell? ⟨w.heap.size, 0, none⟩ = some (.bool an) ∧ W.cell? ⟨w.heap.size, 1, none⟩ = some (.slice va al.length vc) ∧ W.cell? ⟨w.heap.size, 2, none⟩ = some (.int .i64 asc) ∧ W.cell? ⟨w.heap.size + 1, 0, none⟩ = some (.bool bn) ∧ W.cell? ⟨w.heap.size + 1, 1, none⟩ = some (.slice va' bl'.length vc') ∧ W.cell? ⟨w.heap.size + 1, 2, none⟩ = some (.int .i64 bsc)) (go_keep) (first
            | (go_at_call 141; (with_reducible refine Calls.mono (HI.out.1 _ (by first | exact HBB2.out | exact HB9.out)) ?_); rintro e wA2 ⟨rfl, hbA⟩; have hbb : Below wr.heap.size wr wA2 := Below.trans (by first | exact HBB2.out | exact HB9.out) (hbA.mono (Below.size (by first | exact HBB2.out | exact HB9.out))); obtain ⟨⟨g0, g1, g2⟩, g3, g4, g5⟩ := HK.out _ hbb; have HBA2 : Hid _ := hbb; clear hbb hbA)
            | (go_at_call 141; (with_reducible refine Calls.mono (HI.out.2.1 _ (by first | exact HBA2.out | exact HB9.out)) ?_); rintro e wB2 ⟨rfl, hbB⟩; have hbb : Below wr.heap.size wr wB2 := Below.trans (by first | exact HBA2.out | exact HB9.out) (hbB.mono (Below.size (by first | exact HBA2.out | exact HB9.out))); obtain ⟨⟨g0, g1, g2⟩, g3, g4, g5⟩ := HK.out _ hbb; have HBB2 : Hid _ := hbb; clear hbb hbB))
          go_wp2_with fail
          go_ret
          exact ⟨by rw [eR.out, if_pos hlt]; rfl, HI.out.2.2.2.1.trans (HBB2.out.mono HI.out.2.2.2.1.size)⟩
        · go_wp2_with fail
          go_region_held3 (fun W => W.cell? ⟨w.heap.size, 0, none⟩ = some (.bool an) ∧ W.cell? ⟨w.heap.size, 1, none⟩ = some (.slice va al.length vc) ∧ W.cell? ⟨w.heap.size, 2, none⟩ = some (.int .i64 asc) ∧ W.cell? ⟨w.heap.size + 1, 0, none⟩ = some (.bool bn) ∧ W.cell? ⟨w.heap.size + 1, 1, none⟩ = some (.slice va' bl'.length vc') ∧ W.cell? ⟨w.heap.size + 1, 2, none⟩ = some (.int .i64 bsc)) (go_keep) (first
            | (go_at_call 141; (with_reducible refine Calls.mono (HI.out.1 _ (by first | exact HBB2.out | exact HB9.out)) ?_); rintro e wA2 ⟨rfl, hbA⟩; have hbb : Below wr.heap.size wr wA2 := Below.trans (by first | exact HBB2.out | exact HB9.out) (hbA.mono (Below.size (by first | exact HBB2.out | exact HB9.out))); obtain ⟨⟨g0, g1, g2⟩, g3, g4, g5⟩ := HK.out _ hbb; have HBA2 : Hid _ := hbb; clear hbb hbA)
            | (go_at_call 141; (with_reducible refine Calls.mono (HI.out.2.1 _ (by first | exact HBA2.out | exact HB9.out)) ?_); rintro e wB2 ⟨rfl, hbB⟩; have hbb : Below wr.heap.size wr wB2 := Below.trans (by first | exact HBA2.out | exact HB9.out) (hbB.mono (Below.size (by first | exact HBA2.out | exact HB9.out))); obtain ⟨⟨g0, g1, g2⟩, g3, g4, g5⟩ := HK.out _ hbb; have HBB2 : Hid _ := hbb; clear hbb hbB))
          go_wp2_with fail
          go_ret
          exact ⟨by rw [eR.out, if_neg (by omega)]; rfl, HI.out.2.2.2.1.trans (HBB2.out.mono HI.out.2.2.2.1.size)⟩
    · obtain rfl : j = X + 1 + s := by omega
      have e0 : R = 0 := by
        rw [hR.out, drop_all (by rw [HH.out.2.2.2.2.2.2.2.2.1]; omega)]
        rfl
      subst e0
      have hj1 : ¬ ((0 : Int) - s ≤ (X : Int) - ((X + 1 + s : Nat) : Int)) := by omega
      have HB : Hid _ := hbw
      clear hbw hbr hR
      go_wp2_with fail
      go_ret
      exact ⟨rfl, HB.out⟩
theorem cmp_r {w : World} {v v' : Value} {a b : Nm} (ha : NmR w v a) (hb : NmR w v' b) : Calls Tryz.prog 51 #[nmV a.1 v a.2.2, nmV b.1 v' b.2.2] w fun e w' => e = .returned (.int .i64 (cmpS a b)) ∧ Below w.heap.size w w' := by
  obtain ⟨x1, x2, x3⟩ := box2 w (.bool a.1) v (.int .i64 a.2.2) (.bool b.1) v' (.int .i64 b.2.2)
  have hS := size_r (ha.below x3) (hb.below x3)
  have hz : -1 ≤ szS a b ∧ szS a b ≤ 1 := by
    obtain ⟨e1, e2, e3, e4, _⟩ := ex_ok ha.cn hb.cn
    unfold szS
    rcases lex_val (e1.trans e2.symm) e3 e4 with q | q | q <;> omega
  have hc : cmpS a b = if a.1 ≠ b.1 then (if a.1 = true then -1 else 1) else if a.1 = true then -(szS a b) else szS a b := rfl
  obtain ⟨va, vc, rfl, _⟩ := ha.bt.form
  obtain ⟨va', vc', rfl, _⟩ := hb.bt.form
  obtain ⟨b10, b11, b12⟩ := bl3 x1
  obtain ⟨b20, b21, b22⟩ := bl3 x2
  have HH : Hid _ := And.intro hS (And.intro hc x3)
  clear hS hc x1 x2 x3 ha hb
  generalize szS a b = R at *
  generalize cmpS a b = C at *
  obtain ⟨an, al, asc⟩ := a
  obtain ⟨bn, bl', bsc⟩ := b
  dsimp only at *
  obtain ⟨hz0, hz1⟩ := hz
  cases an <;> cases bn
  · have hC : C = R := by rw [HH.out.2.1]; simp
    subst hC
    go_enter Tryz.func51, Tryz.ntmps51
    go_wp2_with fail
    refine Calls.mono HH.out.1 ?_
    rintro e w2 ⟨rfl, hb2⟩
    go_wp2_with fail
    go_ret
    exact ⟨rfl, HH.out.2.2.trans (hb2.mono (by simp only [sza]; omega))⟩
  · have hC : C = 1 := by rw [HH.out.2.1]; simp
    subst hC
    go_enter Tryz.func51, Tryz.ntmps51
    go_wp2_with fail
    go_ret
    exact ⟨rfl, HH.out.2.2⟩
  · have hC : C = -1 := by rw [HH.out.2.1]; simp
    subst hC
    go_enter Tryz.func51, Tryz.ntmps51
    go_wp2_with fail
    go_ret
    exact ⟨rfl, HH.out.2.2⟩
  · have hC : C = 0 - R := by rw [HH.out.2.1]; simp
    subst hC
    go_enter Tryz.func51, Tryz.ntmps51
    go_wp2_with fail
    refine Calls.mono HH.out.1 ?_
    rintro e w2 ⟨rfl, hb2⟩
    go_wp2_with fail
    go_ret
    exact ⟨by simp, HH.out.2.2.trans (hb2.mono (by simp only [sza]; omega))⟩
end Go.Proofs.YtgaegajcejpmdaaGreatDoor.Dc
