/- The second telling: Both, Minus. -/
import Derived.Test.YteddjjabbehfdaaR7
namespace Go.Proofs.Yteddjjabbehfdaa
open Go.RowKit
set_option linter.unusedVariables false

def bthR (a b : List Rg) : List Rg := notR 0 (ofR (notR 0 a ++ notR 0 b))
set_option maxHeartbeats 4000000 in
theorem rboth_r (va vb : Value) (a b : List Rg) (w : World) (ha : Sl .i64 w va a) (hb : Sl .i64 w vb b) (hac : Cn a) (hbc : Cn b) (hn : a.length + b.length ≤ 90000) : Calls Try.prog 25 #[sV va, sV vb] w fun e w' => RsQ (bthR a b) w e w' := by
  obtain ⟨xa, ca, rfl, hca⟩ := ha.len
  obtain ⟨xb, cb, rfl, hcb⟩ := hb.len
  obtain ⟨x1, x2, x3, hbW⟩ := box3 w (.cells #[.slice xa a.length ca] 28) (.cells #[.slice xb b.length cb] 28) (.cells #[.slice none 0 0] 28)
  go_enter Try.func25, Try.ntmps25
  go_upto_region 1 with fail
  obtain ⟨W, hW⟩ : ∃ W, ((w.alloc (.cells #[.slice xa a.length ca] 28)).alloc (.cells #[.slice xb b.length cb] 28)).alloc (.cells #[.slice none 0 0] 28) = W := ⟨_, rfl⟩
  rw [hW] at x1 x2 x3 hbW ⊢
  have hWs : w.heap.size + 2 < W.heap.size := lt_of x3
  have hS : ∀ U, Below (w.heap.size + 2) W U → U.cell? ⟨w.heap.size, 0, none⟩ = some (.slice xa a.length ca) ∧ U.cell? ⟨w.heap.size + 1, 0, none⟩ = some (.slice xb b.length cb) := fun U hU =>
    ⟨(blk1 ((hU.block _ (by omega)).trans x1)).1, (blk1 ((hU.block _ (by omega)).trans x2)).1⟩
  have HS : Hid _ := hS
  have HC : Hid (Below W.heap.size W W.drew) := bdrewN (Below.refl _ _) 1
  have HX : Hid _ := And.intro (ha.below hbW) (And.intro (hb.below hbW) (And.intro x3 (And.intro hbW (And.intro hac hbc))))
  have HW : Hid _ := hWs
  have la := notR_len a 0
  have lb := notR_len b 0
  have lo := ofR_len (notR 0 a ++ notR 0 b)
  rw [List.length_append] at lo
  have HL : Hid _ := And.intro (by omega : a.length ≤ 100000) (And.intro (by omega : b.length ≤ 100000) (And.intro (by omega : (notR 0 a).length + (notR 0 b).length ≤ 100000) (by omega : (ofR (notR 0 a ++ notR 0 b)).length ≤ 100000)))
  have HCO : Hid _ := (ofR_ok (notR 0 a ++ notR 0 b)).cn
  clear la lb lo
  clear hS ha hb x1 x2 x3 hbW hW hWs hac hbc
  go_region_held_law (fun U => U.cell? ⟨w.heap.size, 0, none⟩ = some (.slice xa a.length ca) ∧ U.cell? ⟨w.heap.size + 1, 0, none⟩ = some (.slice xb b.length cb)) (first | with_reducible exact HS.out _ (HC.out.mono (Nat.le_of_lt HW.out)) | with_reducible exact HS.out _ ((HC.out.mono (Nat.le_of_lt HW.out)).setCell (Nat.le_refl _) _) | fail)
    (first
      | (go_at_call 21; have hq := rnot_r (.slice a7 (ofR (notR 0 a ++ notR 0 b)).length c7) (ofR (notR 0 a ++ notR 0 b)) _ HU.out HCO.out HL.out.2.2.2; (with_reducible refine Calls.mono hq ?_); clear hq; rintro e w8 ⟨a8, c8, rfl, o8, hb8⟩; have HSZ := HC.out.size; have hc8 := HC.out.trans (hb8.mono HC.out.size); clear HC; have HC : Hid (Below W.heap.size W w8) := hc8; have hx8 := (HC.out.block _ (lt_of HX.out.2.2.1)).trans HX.out.2.2.1; obtain ⟨y0, y1⟩ := blk1 hx8; have H8 : Hid _ := And.intro hx8 (o8.mono (base' := w.heap.size) (Nat.le_trans HX.out.2.2.2.1.size HSZ)); clear HSZ hx8 o8 hb8 hc8)
      | (go_at_call 21; have hq := rnot_r (.slice xb b.length cb) b _ (HX.out.2.1.below HC.out) HX.out.2.2.2.2.2 HL.out.2.1; (with_reducible refine Calls.mono hq ?_); clear hq; rintro e w6 ⟨a6, c6, rfl, o6, hb6⟩; have hc6 := HC.out.trans (hb6.mono HC.out.size); clear HC; have HC : Hid (Below W.heap.size W w6) := hc6; have hl6 := Sl.below HNA.out hb6; clear HNA; have HNA : Hid (Sl .i64 w6 (.slice a5 (notR 0 a).length c5) (notR 0 a)) := hl6; clear hl6; have HNB : Hid (Sl .i64 w6 (.slice a6 (notR 0 b).length c6) (notR 0 b)) := o6.sl; clear o6 hb6 hc6)
      | (go_at_call 21; have hq := rnot_r (.slice xa a.length ca) a _ (HX.out.1.below HC.out) HX.out.2.2.2.2.1 HL.out.1; (with_reducible refine Calls.mono hq ?_); clear hq; rintro e w5 ⟨a5, c5, rfl, o5, hb5⟩; have hc5 := HC.out.trans (hb5.mono HC.out.size); clear HC; have HC : Hid (Below W.heap.size W w5) := hc5; have hl5 := Sl.below HNB.out hb5; clear HNB; have HNB : Hid (Sl .i64 w5 (.slice a6 (notR 0 b).length c6) (notR 0 b)) := hl5; clear hl5; have HNA : Hid (Sl .i64 w5 (.slice a5 (notR 0 a).length c5) (notR 0 a)) := o5.sl; clear o5 hb5 hc5)
      | (go_at_call 21; have hq := rnot_r (.slice xa a.length ca) a _ (HX.out.1.below HC.out) HX.out.2.2.2.2.1 HL.out.1; (with_reducible refine Calls.mono hq ?_); clear hq; rintro e w5 ⟨a5, c5, rfl, o5, hb5⟩; have hc5 := HC.out.trans (hb5.mono HC.out.size); clear HC; have HC : Hid (Below W.heap.size W w5) := hc5; have HNA : Hid (Sl .i64 w5 (.slice a5 (notR 0 a).length c5) (notR 0 a)) := o5.sl; clear o5 hb5 hc5)
      | (go_at_call 21; have hq := rnot_r (.slice xb b.length cb) b _ (HX.out.2.1.below HC.out) HX.out.2.2.2.2.2 HL.out.2.1; (with_reducible refine Calls.mono hq ?_); clear hq; rintro e w6 ⟨a6, c6, rfl, o6, hb6⟩; have hc6 := HC.out.trans (hb6.mono HC.out.size); clear HC; have HC : Hid (Below W.heap.size W w6) := hc6; have HNB : Hid (Sl .i64 w6 (.slice a6 (notR 0 b).length c6) (notR 0 b)) := o6.sl; clear o6 hb6 hc6)
      | (go_at_call 23; have hq := runion_r (.slice a5 (notR 0 a).length c5) (.slice a6 (notR 0 b).length c6) (notR 0 a) (notR 0 b) _ HNA.out HNB.out HL.out.2.2.1; (with_reducible refine Calls.mono hq ?_); clear hq; rintro e w7 ⟨a7, c7, rfl, o7, hb7⟩; have hc7 := HC.out.trans (hb7.mono HC.out.size); clear HC; have HC : Hid (Below W.heap.size W w7) := hc7; have HU : Hid (Sl .i64 w7 (.slice a7 (ofR (notR 0 a ++ notR 0 b)).length c7) (ofR (notR 0 a ++ notR 0 b))) := o7.sl; clear o7 hb7 hc7)
      | fail)
  all_goals
    go_wp2_with fail
    have hx2 := bset (i := 0) H8.out.1 (.slice a8 (notR 0 (ofR (notR 0 a ++ notR 0 b))).length c8)
    simp only [List.setIfInBounds_toArray, List.set_cons_zero] at hx2
    obtain ⟨k9, _⟩ := blk1 hx2
    have hbb := HX.out.2.2.2.1.trans (HC.out.mono HX.out.2.2.2.1.size)
    refine bodyPost_ret (v := sV (.slice a8 (notR 0 (ofR (notR 0 a ++ notR 0 b))).length c8)) (by simp [results, Try.results25, go_sem, k9]) rfl ⟨_, _, rfl, ?_, hbb.setCell (p := ⟨w.heap.size + 2, 0, none⟩) (by simp) _⟩
    exact own_set H8.out.2 H8.out.1 (by decide) 0 _
def minR (a b : List Rg) : List Rg := bthR a (notR 0 b)
set_option maxHeartbeats 4000000 in
theorem rminus_r (va vb : Value) (a b : List Rg) (w : World) (ha : Sl .i64 w va a) (hb : Sl .i64 w vb b) (hac : Cn a) (hbc : Cn b) (hn : a.length + b.length ≤ 80000) : Calls Try.prog 27 #[sV va, sV vb] w fun e w' => RsQ (minR a b) w e w' := by
  obtain ⟨xa, ca, rfl, hca⟩ := ha.len
  obtain ⟨xb, cb, rfl, hcb⟩ := hb.len
  obtain ⟨x1, x2, x3, hbW⟩ := box3 w (.cells #[.slice xa a.length ca] 28) (.cells #[.slice xb b.length cb] 28) (.cells #[.slice none 0 0] 28)
  go_enter Try.func27, Try.ntmps27
  go_upto_region 1 with fail
  obtain ⟨W, hW⟩ : ∃ W, ((w.alloc (.cells #[.slice xa a.length ca] 28)).alloc (.cells #[.slice xb b.length cb] 28)).alloc (.cells #[.slice none 0 0] 28) = W := ⟨_, rfl⟩
  rw [hW] at x1 x2 x3 hbW ⊢
  have hWs : w.heap.size + 2 < W.heap.size := lt_of x3
  have hS : ∀ U, Below (w.heap.size + 2) W U → U.cell? ⟨w.heap.size, 0, none⟩ = some (.slice xa a.length ca) ∧ U.cell? ⟨w.heap.size + 1, 0, none⟩ = some (.slice xb b.length cb) := fun U hU =>
    ⟨(blk1 ((hU.block _ (by omega)).trans x1)).1, (blk1 ((hU.block _ (by omega)).trans x2)).1⟩
  have HS : Hid _ := hS
  have HC : Hid (Below W.heap.size W W.drew) := bdrewN (Below.refl _ _) 1
  have HX : Hid _ := And.intro (ha.below hbW) (And.intro (hb.below hbW) (And.intro x3 (And.intro hbW (And.intro hac hbc))))
  have HW : Hid _ := hWs
  have lb := notR_len b 0
  have HL : Hid _ := And.intro (by omega : b.length ≤ 100000) (by omega : a.length + (notR 0 b).length ≤ 90000)
  have HNC : Hid _ := (notR_S hbc).cn
  clear lb
  clear hS ha hb x1 x2 x3 hbW hW hWs hac hbc
  go_region_held_law (fun U => U.cell? ⟨w.heap.size, 0, none⟩ = some (.slice xa a.length ca) ∧ U.cell? ⟨w.heap.size + 1, 0, none⟩ = some (.slice xb b.length cb)) (first | with_reducible exact HS.out _ (HC.out.mono (Nat.le_of_lt HW.out)) | with_reducible exact HS.out _ ((HC.out.mono (Nat.le_of_lt HW.out)).setCell (Nat.le_refl _) _) | fail)
    (first
      | (go_at_call 25; have hq := rboth_r (.slice xa a.length ca) (.slice a6 (notR 0 b).length c6) a (notR 0 b) _ (HX.out.1.below HC.out) HNB.out HX.out.2.2.2.2.1 HNC.out HL.out.2; (with_reducible refine Calls.mono hq ?_); clear hq; rintro e w8 ⟨a8, c8, rfl, o8, hb8⟩; have HSZ := HC.out.size; have hc8 := HC.out.trans (hb8.mono HC.out.size); clear HC; have HC : Hid (Below W.heap.size W w8) := hc8; have hx8 := (HC.out.block _ (lt_of HX.out.2.2.1)).trans HX.out.2.2.1; obtain ⟨y0, y1⟩ := blk1 hx8; have H8 : Hid _ := And.intro hx8 (o8.mono (base' := w.heap.size) (Nat.le_trans HX.out.2.2.2.1.size HSZ)); clear HSZ hx8 o8 hb8 hc8)
      | (go_at_call 21; have hq := rnot_r (.slice xb b.length cb) b _ (HX.out.2.1.below HC.out) HX.out.2.2.2.2.2 HL.out.1; (with_reducible refine Calls.mono hq ?_); clear hq; rintro e w6 ⟨a6, c6, rfl, o6, hb6⟩; have hc6 := HC.out.trans (hb6.mono HC.out.size); clear HC; have HC : Hid (Below W.heap.size W w6) := hc6; have HNB : Hid (Sl .i64 w6 (.slice a6 (notR 0 b).length c6) (notR 0 b)) := o6.sl; clear o6 hb6 hc6)
      | fail)
  all_goals
    go_wp2_with fail
    have hx2 := bset (i := 0) H8.out.1 (.slice a8 (bthR a (notR 0 b)).length c8)
    simp only [List.setIfInBounds_toArray, List.set_cons_zero] at hx2
    obtain ⟨k9, _⟩ := blk1 hx2
    have hbb := HX.out.2.2.2.1.trans (HC.out.mono HX.out.2.2.2.1.size)
    refine bodyPost_ret (v := sV (.slice a8 (bthR a (notR 0 b)).length c8)) (by simp [results, Try.results27, go_sem, k9]) rfl ⟨_, _, rfl, ?_, hbb.setCell (p := ⟨w.heap.size + 2, 0, none⟩) (by simp) _⟩
    exact own_set H8.out.2 H8.out.1 (by decide) 0 _
end Go.Proofs.Yteddjjabbehfdaa
