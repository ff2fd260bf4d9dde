/- SetNames: the walk. -/
import Derived.Test.YteddjjabbehfdaaN7
namespace Go.Proofs.Yteddjjabbehfdaa
open Go.RowKit
set_option linter.unusedVariables false

theorem wh_has (r : Int) : memB whL r = isWhite r := by
  rw [Bool.eq_iff_iff]
  unfold whL isWhite
  simp only [mem_cons, mem_nil, Bool.or_eq_true, inR_iff, decide_eq_true_eq, Bool.false_eq_true, or_false]
  omega
theorem st_has (r : Int) : memB stL r = isStart r := by
  rw [Bool.eq_iff_iff]
  unfold stL isStart isChar
  simp only [mem_cons, mem_nil, Bool.or_eq_true, inR_iff, decide_eq_true_eq, Bool.false_eq_true, or_false]
  omega
theorem pt_has (r : Int) : memB ptL r = isPart r := by
  rw [Bool.eq_iff_iff]
  unfold ptL isPart isStart isChar
  simp only [mem_cons, mem_nil, Bool.or_eq_true, inR_iff, decide_eq_true_eq, Bool.false_eq_true, or_false]
  omega
theorem same_rt (va vb : Value) (a : List Rg) (w : World) (ha : Sl .i64 w va a) (hb : Sl .i64 w vb a) (hn : a.length ≤ 1000000) : Calls Try.prog 12 #[sV va, sV vb] w fun e w' => e = .returned (.bool true) ∧ Below w.heap.size w w' := by
  have h := same_r va vb a a w ha hb hn hn
  rw [decide_eq_true (rfl : a = a)] at h
  exact h
set_option maxRecDepth 8000 in
set_option maxHeartbeats 8000000 in
theorem names_s (c : Int) (s : ByteArray) (r : Int) (w : World) (hc : 0 ≤ c ∧ c < 256) : Calls Try.prog 5 #[.int .u8 c, .string s, .int .i32 r] w fun e w' => e = .returned (.bool true) ∧ Below w.heap.size w w' := by
  have HK : Hid _ := And.intro (fun W : World => known_p W) trivial
  by_cases h0 : 200 < s.size
  · have d : decide ((200 : Int) < (s.size : Int)) = true := by simp; omega
    go_enter Try.func5, Try.ntmps5
    go_wp2_with fail
    refine Calls.mono (HK.out.1 _) ?_
    rintro e w1 ⟨rfl, hb1⟩
    go_wp2_with fail
    go_ret
    exact ⟨rfl, hb1⟩
  have dh0 : decide ((200 : Int) < (s.size : Int)) = false := by simp; omega
  have qe := fun W => esc_p c W
  have qf := fun W => resc_r c W
  have qc := fun W => cat_p s W
  have qd := fun W => rcat_r s W
  have oe := esc_ok c
  have oc := cat_ok s.data.toList
  obtain ⟨p1, hp1⟩ : ∃ p, escS c = p := ⟨_, rfl⟩
  obtain ⟨p2, hp2⟩ : ∃ p, catS s.data.toList = p := ⟨_, rfl⟩
  rw [hp1] at qe qf oe
  rw [hp2] at qc qd oc
  clear hp1 hp2
  obtain ⟨t1, b1⟩ := p1
  obtain ⟨t2, b2⟩ := p2
  dsimp only at oe oc
  have HQ : Hid _ := And.intro qe (And.intro qf (And.intro qc qd))
  have HN : Hid (Cn t1 ∧ Cn t2 ∧ In32 t1 ∧ In32 t2 ∧ t1.length ≤ 100 ∧ t2.length ≤ 100) := ⟨oe.1, oc.1, cn_in32 oe.1, cn_in32 oc.1, oe.2, oc.2⟩
  have tb1 : (b1 != b1) = false := by simp
  have tb2 : (b2 != b2) = false := by simp
  have cw : IntKind.i64.wrap c = c := by rw [IntKind.wrap_i64]; omega
  obtain ⟨hc0, hc1⟩ := hc
  clear qe qf qc qd oe oc
  go_enter Try.func5, Try.ntmps5
  go_wp2_with fail
  refine Calls.mono (HK.out.1 _) ?_
  rintro e w1 ⟨rfl, hb1⟩
  have HB : Hid (Below w.heap.size w w1) := hb1
  clear hb1
  go_wp2_with fail
  refine Calls.mono (HQ.out.1 _) ?_
  rintro e w2 ⟨a2, c2, rfl, o2, hb2⟩
  have HB2 : Hid (Below w.heap.size w w2 ∧ Sl .i32 w2 (.slice a2 t1.length c2) t1) := ⟨HB.out.trans (hb2.mono HB.out.size), o2.sl⟩
  clear hb2 o2 HB
  dsimp only
  go_wp2_with fail
  refine Calls.mono (HQ.out.2.1 _) ?_
  rintro e w3 ⟨a3, c3, rfl, o3, hb3⟩
  dsimp only at o3 ⊢
  have hx3 := nw_heap w3 (.cells #[.slice a3 t1.length c3] 28)
  have hbx : Below w3.heap.size w3 (w3.alloc (.cells #[.slice a3 t1.length c3] 28)) := (Below.refl _ _).alloc (Nat.le_refl _) _
  have hw3 := HB2.out.1.trans (hb3.mono HB2.out.1.size)
  go_upto_region 7 with fail
  obtain ⟨U, hU⟩ : ∃ U, w3.alloc (.cells #[.slice a3 t1.length c3] 28) = U := ⟨_, rfl⟩
  rw [hU] at hx3 hbx ⊢
  have H3 : Hid (U.heap[w3.heap.size]? = some (.cells #[.slice a3 t1.length c3] 28 (0, 0)) ∧ Below w.heap.size w U ∧ Sl .i32 U (.slice a2 t1.length c2) t1 ∧ Sl .i64 U (.slice a3 t1.length c3) t1) := ⟨hx3, hw3.trans (hbx.mono hw3.size), (HB2.out.2.below hb3).below hbx, o3.sl.below hbx⟩
  clear hx3 hbx hw3 hb3 o3 HB2 hU
  go_wp2_with fail
  refine Calls.mono (HQ.out.2.2.1 _) ?_
  rintro e w4 ⟨a4, c4, rfl, o4, hb4⟩
  dsimp only at o4 ⊢
  have H4 : Hid (Below U.heap.size U w4 ∧ Sl .i32 w4 (.slice a4 t2.length c4) t2) := ⟨hb4, o4.sl⟩
  clear hb4 o4
  go_wp2_with fail
  refine Calls.mono (HQ.out.2.2.2 _) ?_
  rintro e w5 ⟨a5, c5, rfl, o5, hb5⟩
  dsimp only at o5 ⊢
  have hx5 := nw_heap w5 (.cells #[.slice a5 t2.length c5] 28)
  have hbx : Below w5.heap.size w5 (w5.alloc (.cells #[.slice a5 t2.length c5] 28)) := (Below.refl _ _).alloc (Nat.le_refl _) _
  go_upto_region 9 with fail
  obtain ⟨V, hV⟩ : ∃ V, w5.alloc (.cells #[.slice a5 t2.length c5] 28) = V := ⟨_, rfl⟩
  rw [hV] at hx5 hbx ⊢
  have hUV : Below U.heap.size U V := (H4.out.1.trans (hb5.mono H4.out.1.size)).trans (hbx.mono (H4.out.1.trans (hb5.mono H4.out.1.size)).size)
  have hwV : Below w.heap.size w V := H3.out.2.1.trans (hUV.mono H3.out.2.1.size)
  have hB1 := (hUV.block _ (lt_of H3.out.1)).trans H3.out.1
  have fS : ∀ X, Below V.heap.size V X → X.cell? ⟨w3.heap.size, 0, none⟩ = some (.slice a3 t1.length c3) ∧ X.cell? ⟨w5.heap.size, 0, none⟩ = some (.slice a5 t2.length c5) := fun X hX =>
    ⟨(blk1 ((hX.block _ (lt_of hB1)).trans hB1)).1, (blk1 ((hX.block _ (lt_of hx5)).trans hx5)).1⟩
  have HFS : Hid (∀ X, Below V.heap.size V X → X.cell? ⟨w3.heap.size, 0, none⟩ = some (.slice a3 t1.length c3) ∧ X.cell? ⟨w5.heap.size, 0, none⟩ = some (.slice a5 t2.length c5)) := fS
  have HF : Hid (Sl .i32 V (.slice a2 t1.length c2) t1 ∧ Sl .i64 V (.slice a3 t1.length c3) t1 ∧ Sl .i32 V (.slice a4 t2.length c4) t2 ∧ Sl .i64 V (.slice a5 t2.length c5) t2 ∧ Below w.heap.size w V) := ⟨H3.out.2.2.1.below hUV, H3.out.2.2.2.below hUV, (H4.out.2.below hb5).below hbx, o5.sl.below hbx, hwV⟩
  have HC : Hid (Below V.heap.size V V.drew) := bdrewN (Below.refl _ _) 1
  clear fS hUV hwV hB1 hx5 hbx hb5 o5 hV H3 H4 HQ
  go_region_held_law (fun X => X.cell? ⟨w3.heap.size, 0, none⟩ = some (.slice a3 t1.length c3) ∧ X.cell? ⟨w5.heap.size, 0, none⟩ = some (.slice a5 t2.length c5)) (first | with_reducible exact HFS.out _ HC.out | fail)
    (first
      | (go_at_call 12; have hq := same_rt (.slice a10 t1.length c10) (.slice a3 t1.length c3) t1 _ HR10.out (HF.out.2.1.below HC.out) (by have := HN.out.2.2.2.2.1; omega); (with_reducible refine Calls.mono hq ?_); clear hq; rintro e w11 ⟨rfl, hb11⟩; have hc11 := HC.out.trans (hb11.mono HC.out.size); clear HC; have HC : Hid (Below V.heap.size V w11) := hc11; clear hc11; clear hb11 HR10)
      | (go_at_call 12; have hq := same_rt (.slice a12 t2.length c12) (.slice a5 t2.length c5) t2 _ HR12.out (HF.out.2.2.2.1.below HC.out) (by have := HN.out.2.2.2.2.2; omega); (with_reducible refine Calls.mono hq ?_); clear hq; rintro e w13 ⟨rfl, hb13⟩; have hc13 := HC.out.trans (hb13.mono HC.out.size); clear HC; have HC : Hid (Below V.heap.size V w13) := hc13; clear hc13; clear hb13 HR12)
      | (go_at_call 13; have hq := ofs_r (.slice a2 t1.length c2) t1 _ (HF.out.1.below HC.out) HN.out.2.2.1 (by have := HN.out.2.2.2.2.1; omega); (with_reducible refine Calls.mono hq ?_); clear hq; rintro e w10 ⟨a10, c10, rfl, o10, hb10⟩; have hc10 := HC.out.trans (hb10.mono HC.out.size); clear HC; have HC : Hid (Below V.heap.size V w10) := hc10; clear hc10; have HR10 : Hid (Sl .i64 w10 (.slice a10 t1.length c10) t1) := o10.sl; clear o10 hb10)
      | (go_at_call 13; have hq := ofs_r (.slice a4 t2.length c4) t2 _ (HF.out.2.2.1.below HC.out) HN.out.2.2.2.1 (by have := HN.out.2.2.2.2.2; omega); (with_reducible refine Calls.mono hq ?_); clear hq; rintro e w12 ⟨a12, c12, rfl, o12, hb12⟩; have hc12 := HC.out.trans (hb12.mono HC.out.size); clear HC; have HC : Hid (Below V.heap.size V w12) := hc12; clear hc12; have HR12 : Hid (Sl .i64 w12 (.slice a12 t2.length c12) t2) := o12.sl; clear o12 hb12)
      | fail)
  clear tb1 tb2 cw HFS HN
  have q1 := fun W => esc_105 W
  have q2 := fun W => esc_99 W
  have q3 := fun W => esc_115 W
  have HQ : Hid _ := And.intro q1 (And.intro q2 q3)
  clear q1 q2 q3
  go_wp2_with fail
  refine Calls.mono (HQ.out.1 _) ?_
  rintro e w21 ⟨a21, c21, rfl, o21, hb21⟩
  dsimp only at o21 ⊢
  have hcc := HF.out.2.2.2.2.trans ((HC.out.trans (hb21.mono HC.out.size)).mono HF.out.2.2.2.2.size)
  have H21 : Hid (Below w.heap.size w w21 ∧ Sl .i32 w21 (.slice a21 stL.length c21) stL) := ⟨hcc, o21.sl⟩
  clear hcc hb21 o21 HC HF
  go_wp2_with fail
  refine Calls.mono (HQ.out.2.1 _) ?_
  rintro e w22 ⟨a22, c22, rfl, o22, hb22⟩
  dsimp only at o22 ⊢
  have H22 : Hid (Below w.heap.size w w22 ∧ Sl .i32 w22 (.slice a21 stL.length c21) stL ∧ Sl .i32 w22 (.slice a22 ptL.length c22) ptL) := ⟨H21.out.1.trans (hb22.mono H21.out.1.size), H21.out.2.below hb22, o22.sl⟩
  clear hb22 o22 H21
  go_wp2_with fail
  refine Calls.mono (HQ.out.2.2 _) ?_
  rintro e w23 ⟨a23, c23, rfl, o23, hb23⟩
  dsimp only at o23 ⊢
  have H23 : Hid (Below w.heap.size w w23 ∧ Sl .i32 w23 (.slice a21 stL.length c21) stL ∧ Sl .i32 w23 (.slice a22 ptL.length c22) ptL ∧ Sl .i32 w23 (.slice a23 whL.length c23) whL) := ⟨H22.out.1.trans (hb23.mono H22.out.1.size), H22.out.2.1.below hb23, H22.out.2.2.below hb23, o23.sl⟩
  clear hb23 o23 H22 HQ
  have r1 := has_p _ stL r w23 H23.out.2.1 (rt0 (by decide +kernel)) (by decide)
  have r2 := fun (W : World) (h : Below w23.heap.size w23 W) => has_p _ ptL r W (H23.out.2.2.1.below h) (rt0 (by decide +kernel)) (by decide)
  have r3 := fun (W : World) (h : Below w23.heap.size w23 W) => has_p _ whL r W (H23.out.2.2.2.below h) (rt0 (by decide +kernel)) (by decide)
  have s1 := fun W => start_p r W
  have s2 := fun W => part_p r W
  have s3 := fun W => white_p r W
  rw [st_has] at r1
  rw [pt_has] at r2
  rw [wh_has] at r3
  obtain ⟨B1, hB1⟩ : ∃ B, isStart r = B := ⟨_, rfl⟩
  obtain ⟨B2, hB2⟩ : ∃ B, isPart r = B := ⟨_, rfl⟩
  obtain ⟨B3, hB3⟩ : ∃ B, isWhite r = B := ⟨_, rfl⟩
  rw [hB1] at r1 s1
  rw [hB2] at r2 s2
  rw [hB3] at r3 s3
  have t1 : (B1 == B1) = true := by simp
  have t2 : (B2 == B2) = true := by simp
  have t3 : (B3 == B3) = true := by simp
  have HR : Hid _ := And.intro r1 (And.intro r2 (And.intro r3 (And.intro s1 (And.intro s2 s3))))
  clear r1 r2 r3 s1 s2 s3 hB1 hB2 hB3
  go_wp2_with fail
  refine Calls.mono HR.out.1 ?_
  rintro e w31 ⟨rfl, hb31⟩
  have HB : Hid (Below w23.heap.size w23 w31) := hb31
  clear hb31
  go_wp2_with fail
  refine Calls.mono (HR.out.2.2.2.1 _) ?_
  rintro e w32 ⟨rfl, hw⟩
  subst hw
  go_wp2_with fail
  refine Calls.mono (HR.out.2.1 _ HB.out) ?_
  rintro e w33 ⟨rfl, hb33⟩
  have HB : Hid (Below w23.heap.size w23 w33) := HB.out.trans (hb33.mono HB.out.size)
  clear hb33
  go_wp2_with fail
  refine Calls.mono (HR.out.2.2.2.2.1 _) ?_
  rintro e w34 ⟨rfl, hw⟩
  subst hw
  go_wp2_with fail
  refine Calls.mono (HR.out.2.2.1 _ HB.out) ?_
  rintro e w35 ⟨rfl, hb35⟩
  have HB : Hid (Below w23.heap.size w23 w35) := HB.out.trans (hb35.mono HB.out.size)
  clear hb35
  go_wp2_with fail
  refine Calls.mono (HR.out.2.2.2.2.2 _) ?_
  rintro e w36 ⟨rfl, hw⟩
  subst hw
  go_wp2_with fail
  go_ret
  exact ⟨rfl, H23.out.1.trans (HB.out.mono H23.out.1.size)⟩
theorem wf8 {a : Int} (h : (Lit.int .u8 a).wf = true) : 0 ≤ a ∧ a < 256 := by
  have := range_u8 (zs := [a]) (by intro n hn; simp at hn; subst hn; exact h) 0
  simp at this
  omega
end Go.Proofs.Yteddjjabbehfdaa
