/- The second telling: Escape of words; all escapes. -/
import Derived.Test.YteddjjabbehfdaaN6
namespace Go.Proofs.Yteddjjabbehfdaa
open Go.RowKit
set_option linter.unusedVariables false

set_option maxHeartbeats 4000000 in
theorem resc_119 (w : World) : Calls Try.prog 30 #[.int .i64 119] w fun e w' => ErQ (wdL, true) w e w' := by
  have x0 := nw_heap w (.cells #[.slice none 0 0] 28)
  have b0 : Below w.heap.size w (w.alloc (.cells #[.slice none 0 0] 28)) := (Below.refl _ _).alloc (Nat.le_refl _) _
  have q0 := rcat_xp (w.alloc (.cells #[.slice none 0 0] 28))
  have q1 : ∀ W : World, Calls Try.prog 32 #[.string ⟨#[90]⟩] W fun e w' => ErQ (zL, true) W e w' := fun W => rcat_xz W
  have q2 : ∀ W : World, Calls Try.prog 32 #[.string ⟨#[67]⟩] W fun e w' => ErQ (cL, true) W e w' := fun W => rcat_xc W
  have H0 : Hid _ := And.intro q0 (And.intro x0 b0)
  have HQ : Hid _ := And.intro q1 q2
  clear q0 x0 b0 q1 q2
  go_enter Try.func30, Try.ntmps30
  go_wp2_with fail
  refine Calls.mono H0.out.1 ?_
  rintro e w1 ⟨a1, c1, rfl, o1, hb1⟩
  dsimp only at o1 ⊢
  have x1 := (hb1.block _ (lt_of H0.out.2.1)).trans H0.out.2.1
  have b1 := H0.out.2.2.trans (hb1.mono H0.out.2.2.size)
  have hW1 : Below w1.heap.size w1 (w1.alloc (.cells #[.slice a1 pL.length c1] 28)) := (Below.refl _ _).alloc (Nat.le_refl _) _
  have y1 := nw_heap w1 (.cells #[.slice a1 pL.length c1] 28)
  have H1 : Hid _ := And.intro (o1.sl.below hW1) (And.intro y1 (And.intro ((hW1.block _ (lt_of x1)).trans x1) (And.intro (b1.trans (hW1.mono b1.size)) (lt_of x1))))
  clear x1 b1 hW1 y1 o1 hb1 H0
  go_wp2_with fail
  refine Calls.mono (HQ.out.1 _) ?_
  rintro e w2 ⟨a2, c2, rfl, o2, hb2⟩
  dsimp only at o2 ⊢
  have x2 := (hb2.block _ (lt_of H1.out.2.2.1)).trans H1.out.2.2.1
  have y2 := (hb2.block _ (lt_of H1.out.2.1)).trans H1.out.2.1
  have b2 := H1.out.2.2.2.1.trans (hb2.mono H1.out.2.2.2.1.size)
  have hW2 : Below w2.heap.size w2 (w2.alloc (.cells #[.slice a2 zL.length c2] 28)) := (Below.refl _ _).alloc (Nat.le_refl _) _
  have z2 := nw_heap w2 (.cells #[.slice a2 zL.length c2] 28)
  have H2 : Hid _ := And.intro ((H1.out.1.below hb2).below hW2) (And.intro (o2.sl.below hW2) (And.intro ((hW2.block _ (lt_of y2)).trans y2) (And.intro z2 (And.intro ((hW2.block _ (lt_of x2)).trans x2) (And.intro (b2.trans (hW2.mono b2.size)) (And.intro H1.out.2.2.2.2 (lt_of y2)))))))
  clear x2 y2 b2 hW2 z2 o2 hb2 H1
  go_wp2_with fail
  refine Calls.mono (HQ.out.2 _) ?_
  rintro e w3 ⟨a3, c3, rfl, o3, hb3⟩
  dsimp only at o3 ⊢
  have x3 := (hb3.block _ (lt_of H2.out.2.2.2.2.1)).trans H2.out.2.2.2.2.1
  have y3 := (hb3.block _ (lt_of H2.out.2.2.1)).trans H2.out.2.2.1
  have z3 := (hb3.block _ (lt_of H2.out.2.2.2.1)).trans H2.out.2.2.2.1
  have b3 := H2.out.2.2.2.2.2.1.trans (hb3.mono H2.out.2.2.2.2.2.1.size)
  have hW3 : Below w3.heap.size w3 (w3.alloc (.cells #[.slice a3 cL.length c3] 28)) := (Below.refl _ _).alloc (Nat.le_refl _) _
  have u3 := nw_heap w3 (.cells #[.slice a3 cL.length c3] 28)
  have H3 : Hid _ := And.intro ((H2.out.1.below hb3).below hW3) (And.intro ((H2.out.2.1.below hb3).below hW3) (And.intro (o3.sl.below hW3) (And.intro ((hW3.block _ (lt_of y3)).trans y3) (And.intro ((hW3.block _ (lt_of z3)).trans z3) (And.intro u3 (And.intro ((hW3.block _ (lt_of x3)).trans x3) (b3.trans (hW3.mono b3.size))))))))
  have hn1 := H2.out.2.2.2.2.2.2.1
  have hn2 : w1.heap.size < w2.heap.size := H2.out.2.2.2.2.2.2.2
  have hn3 : w2.heap.size < w3.heap.size := lt_of z3
  clear x3 y3 z3 b3 hW3 u3 o3 hb3 H2 HQ
  obtain ⟨W, hW⟩ : ∃ W, w3.alloc (.cells #[.slice a3 cL.length c3] 28) = W := ⟨_, rfl⟩
  rw [hW] at H3
  have hWs : w3.heap.size < W.heap.size := lt_of H3.out.2.2.2.2.2.1
  go_upto_region 14 with fail
  clear hW
  have hS : ∀ U, Below W.heap.size W U → U.cell? ⟨w1.heap.size, 0, none⟩ = some (.slice a1 pL.length c1) ∧ U.cell? ⟨w2.heap.size, 0, none⟩ = some (.slice a2 zL.length c2) ∧ U.cell? ⟨w3.heap.size, 0, none⟩ = some (.slice a3 cL.length c3) := fun U hU =>
    ⟨(blk1 ((hU.block _ (by omega)).trans H3.out.2.2.2.1)).1, (blk1 ((hU.block _ (by omega)).trans H3.out.2.2.2.2.1)).1, (blk1 ((hU.block _ (by omega)).trans H3.out.2.2.2.2.2.1)).1⟩
  have hS2 : ∀ U x, Below W.heap.size W U → (U.setCell ⟨w.heap.size, 0, none⟩ x).cell? ⟨w1.heap.size, 0, none⟩ = some (.slice a1 pL.length c1) ∧ (U.setCell ⟨w.heap.size, 0, none⟩ x).cell? ⟨w2.heap.size, 0, none⟩ = some (.slice a2 zL.length c2) ∧ (U.setCell ⟨w.heap.size, 0, none⟩ x).cell? ⟨w3.heap.size, 0, none⟩ = some (.slice a3 cL.length c3) := fun U x hU =>
    ⟨(blk1 ((Below.heap_setCell U ⟨w.heap.size, 0, none⟩ x w1.heap.size (by show w1.heap.size ≠ w.heap.size; omega)).trans ((hU.block _ (by omega)).trans H3.out.2.2.2.1))).1, (blk1 ((Below.heap_setCell U ⟨w.heap.size, 0, none⟩ x w2.heap.size (by show w2.heap.size ≠ w.heap.size; omega)).trans ((hU.block _ (by omega)).trans H3.out.2.2.2.2.1))).1, (blk1 ((Below.heap_setCell U ⟨w.heap.size, 0, none⟩ x w3.heap.size (by show w3.heap.size ≠ w.heap.size; omega)).trans ((hU.block _ (by omega)).trans H3.out.2.2.2.2.2.1))).1⟩
  have HS : Hid _ := And.intro hS hS2
  have HC : Hid (Below W.heap.size W W.drew) := bdrewN (Below.refl _ _) 1
  have HCO : Hid _ := (ofR_ok (ofR (pL ++ zL) ++ cL)).cn
  have hfin : notR 0 (ofR (ofR (pL ++ zL) ++ cL)) = wdL := by decide +kernel
  have HF : Hid _ := hfin
  have hl1 : (ofR (pL ++ zL)).length + cL.length ≤ 100000 := by decide +kernel
  have hl2 : (ofR (ofR (pL ++ zL) ++ cL)).length ≤ 100000 := by decide +kernel
  have HL : Hid _ := And.intro hl1 hl2
  clear hS hS2 hn1 hn2 hn3 hWs hfin hl1 hl2
  go_region_held_law (fun U => U.cell? ⟨w1.heap.size, 0, none⟩ = some (.slice a1 pL.length c1) ∧ U.cell? ⟨w2.heap.size, 0, none⟩ = some (.slice a2 zL.length c2) ∧ U.cell? ⟨w3.heap.size, 0, none⟩ = some (.slice a3 cL.length c3)) (first | with_reducible exact HS.out.1 _ HC.out | with_reducible exact HS.out.2 _ _ HC.out | fail)
    (first
      | (go_at_call 21; have hq := rnot_r (.slice a7 (ofR (ofR (pL ++ zL) ++ cL)).length c7) (ofR (ofR (pL ++ zL) ++ cL)) _ HU.out HCO.out HL.out.2; (with_reducible refine Calls.mono hq ?_); clear hq; rintro e w8 ⟨a8, c8, rfl, o8, hb8⟩; have ho8 := o8.mono HC.out.size; have hc8 := HC.out.trans (hb8.mono HC.out.size); clear HC; have HC : Hid (Below W.heap.size W w8) := hc8; have hx8 := (HC.out.block _ (lt_of H3.out.2.2.2.2.2.2.1)).trans H3.out.2.2.2.2.2.2.1; obtain ⟨y0, y1⟩ := blk1 hx8; have H8 : Hid _ := ho8; clear hx8 o8 ho8 hb8 hc8)
      | (go_at_call 23; have hq := runion_r (.slice a6 (ofR (pL ++ zL)).length c6) (.slice a3 cL.length c3) (ofR (pL ++ zL)) cL _ HU6.out (H3.out.2.2.1.below HC.out) HL.out.1; (with_reducible refine Calls.mono hq ?_); clear hq; rintro e w7 ⟨a7, c7, rfl, o7, hb7⟩; have hc7 := HC.out.trans (hb7.mono HC.out.size); clear HC; have HC : Hid (Below W.heap.size W w7) := hc7; have HU : Hid (Sl .i64 w7 (.slice a7 (ofR (ofR (pL ++ zL) ++ cL)).length c7) (ofR (ofR (pL ++ zL) ++ cL))) := o7.sl; clear o7 hb7 hc7)
      | (go_at_call 23; have hq := runion_r (.slice a1 pL.length c1) (.slice a2 zL.length c2) pL zL _ (H3.out.1.below HC.out) (H3.out.2.1.below HC.out) (by decide); (with_reducible refine Calls.mono hq ?_); clear hq; rintro e w6 ⟨a6, c6, rfl, o6, hb6⟩; have hc6 := HC.out.trans (hb6.mono HC.out.size); clear HC; have HC : Hid (Below W.heap.size W w6) := hc6; have HU6 : Hid (Sl .i64 w6 (.slice a6 (ofR (pL ++ zL)).length c6) (ofR (pL ++ zL))) := o6.sl; clear o6 hb6 hc6)
      | fail)
  all_goals
    go_wp2_with fail
    have hE := er_end H3.out.2.2.2.2.2.2.1 H3.out.2.2.2.2.2.2.2 H8.out HC.out
    have k9 := hE.1
    refine bodyPost_ret (v := .tuple #[sV (.slice a8 (notR 0 (ofR (ofR (pL ++ zL) ++ cL))).length c8), .bool true]) (by simp [results, Try.results30, go_sem, k9]) rfl ?_
    rw [HF.out] at hE ⊢
    exact ⟨_, _, rfl, hE.2.1, hE.2.2⟩
set_option maxHeartbeats 1000000 in
theorem resc_87 (w : World) : Calls Try.prog 30 #[.int .i64 87] w fun e w' => ErQ (notR 0 wdL, true) w e w' := by
  have x0 := nw_heap w (.cells #[.slice none 0 0] 28)
  have b0 : Below w.heap.size w (w.alloc (.cells #[.slice none 0 0] 28)) := (Below.refl _ _).alloc (Nat.le_refl _) _
  have q0 := resc_119 (w.alloc (.cells #[.slice none 0 0] 28))
  have hc : Cn wdL := rt0 (by decide +kernel)
  have H0 : Hid _ := And.intro q0 (And.intro x0 (And.intro b0 hc))
  clear q0 x0 b0 hc
  go_enter Try.func30, Try.ntmps30
  go_wp2_with fail
  refine Calls.mono H0.out.1 ?_
  rintro e w1 ⟨a1, c1, rfl, hown1, hb1⟩
  dsimp only at *
  have hW : Below w1.heap.size w1 (w1.alloc (.cells #[.slice a1 (wdL : List Rg).length c1] 28)) := (Below.refl _ _).alloc (Nat.le_refl _) _
  have q1 := rnot_r _ _ _ (hown1.sl.below hW) H0.out.2.2.2 (by decide)
  have x1 := (hW.block _ (lt_of ((hb1.block _ (lt_of H0.out.2.1)).trans H0.out.2.1))).trans ((hb1.block _ (lt_of H0.out.2.1)).trans H0.out.2.1)
  have b1 := (H0.out.2.2.1.trans (hb1.mono H0.out.2.2.1.size)).trans (hW.mono (H0.out.2.2.1.trans (hb1.mono H0.out.2.2.1.size)).size)
  have HQ : Hid _ := And.intro q1 (And.intro x1 b1)
  clear q1 x1 b1 hown1 hb1 hW H0
  go_wp2_with fail
  refine Calls.mono HQ.out.1 ?_
  rintro e w2 ⟨a, c, rfl, hown2, hb2⟩
  have hx2 := (hb2.block _ (lt_of HQ.out.2.1)).trans HQ.out.2.1
  obtain ⟨c0, f0⟩ := blk1 hx2
  have hwn : w.heap.size < w2.heap.size := lt_of hx2
  have hE := er_end HQ.out.2.1 HQ.out.2.2 hown2 hb2
  have H2 : Hid _ := hE
  clear hown2 hb2 hx2 hE
  go_wp2_with fail
  have k0 : (w2.setCell ⟨w.heap.size, 0, none⟩ (.slice a (notR 0 wdL).length c)).cell? ⟨w.heap.size, 0, none⟩ = some (.slice a (notR 0 wdL).length c) := H2.out.1
  refine bodyPost_ret (v := .tuple #[sV (.slice a (notR 0 wdL : List Rg).length c), .bool true]) (by simp [results, Try.results30, go_sem, k0]) rfl ⟨a, c, rfl, H2.out.2.1, H2.out.2.2⟩
set_option maxHeartbeats 1000000 in
theorem resc_no (c : Int) (w : World) (h0 : c ≠ 115) (h1 : c ≠ 105) (h2 : c ≠ 99) (h3 : c ≠ 100) (h4 : c ≠ 119) (h5 : c ≠ 83) (h6 : c ≠ 73) (h7 : c ≠ 67) (h8 : c ≠ 68) (h9 : c ≠ 87) : Calls Try.prog 30 #[.int .i64 c] w fun e w' => ErQ ([], false) w e w' := by
  go_enter Try.func30, Try.ntmps30
  go_wp2_with fail
  refine bodyPost_ret (v := .tuple #[sV (.slice none 0 0), .bool false]) (by simp [results, Try.results30, go_sem]) rfl ⟨none, 0, rfl, Own.nil _ _ _ _, ?_⟩
  exact (Below.refl _ _).alloc (Nat.le_refl _) _
theorem resc_r (c : Int) (w : World) : Calls Try.prog 30 #[.int .i64 c] w fun e w' => ErQ (escS c) w e w' := by
  unfold escS
  by_cases h0 : c = 115
  · rw [if_pos h0, h0]
    exact resc_115 w
  rw [if_neg h0]
  by_cases h1 : c = 105
  · rw [if_pos h1, h1]
    exact resc_105 w
  rw [if_neg h1]
  by_cases h2 : c = 99
  · rw [if_pos h2, h2]
    exact resc_99 w
  rw [if_neg h2]
  by_cases h3 : c = 100
  · rw [if_pos h3, h3]
    exact resc_100 w
  rw [if_neg h3]
  by_cases h4 : c = 119
  · rw [if_pos h4, h4]
    exact resc_119 w
  rw [if_neg h4]
  by_cases h5 : c = 83
  · rw [if_pos h5, h5]
    exact resc_83 w
  rw [if_neg h5]
  by_cases h6 : c = 73
  · rw [if_pos h6, h6]
    exact resc_73 w
  rw [if_neg h6]
  by_cases h7 : c = 67
  · rw [if_pos h7, h7]
    exact resc_67 w
  rw [if_neg h7]
  by_cases h8 : c = 68
  · rw [if_pos h8, h8]
    exact resc_68 w
  rw [if_neg h8]
  by_cases h9 : c = 87
  · rw [if_pos h9, h9]
    exact resc_87 w
  rw [if_neg h9]
  exact resc_no c w h0 h1 h2 h3 h4 h5 h6 h7 h8 h9
end Go.Proofs.Yteddjjabbehfdaa
