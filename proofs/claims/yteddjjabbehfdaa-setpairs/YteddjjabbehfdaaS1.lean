/- SetPairs: the walk. -/
import Derived.Test.YteddjjabbehfdaaR9
namespace Go.Proofs.Yteddjjabbehfdaa
open Go.RowKit
set_option linter.unusedVariables false

theorem same_rt (va vb : Value) (a : List Rg) (w : World) (ha : Sl .i64 w va a) (hb : Sl .i64 w vb a) (hn : a.length ≤ 1000000) : Calls Try.prog 12 #[sV va, sV vb] w fun e w' => e = .returned (.bool true) ∧ Below w.heap.size w w' := by
  have h := same_r va vb a a w ha hb hn hn
  rw [decide_eq_true (rfl : a = a)] at h
  exact h
theorem right_t (v : Value) (l : List Rg) (w : World) (h : Sl .i32 w v l) (hc : Cn l) (hn : l.length ≤ 1000000) : Calls Try.prog 14 #[v] w fun e w' => e = .returned (.bool true) ∧ Below w.heap.size w w' := by
  have q := right_p v l w h hn
  rw [rt_cn hc] at q
  exact q
set_option maxRecDepth 8000 in
set_option maxHeartbeats 8000000 in
theorem pairs_s (va vb : Value) (a b : List Rg) (r : Int) (w : World) (ha : Sl .i32 w va a) (hb : Sl .i32 w vb b) (ia : In32 a) (ib : In32 b) (ir : -2147483648 ≤ r ∧ r ≤ 2147483647) : Calls Try.prog 3 #[va, vb, .int .i32 r] w fun e w' => e = .returned (.bool true) ∧ Below w.heap.size w w' := by
  have HK : Hid _ := And.intro (fun W : World => known_p W) (And.intro ha (And.intro hb (And.intro ia ib)))
  obtain ⟨aa, ac, rfl, _⟩ := ha.len
  obtain ⟨ba, bc, rfl, _⟩ := hb.len
  clear ha hb ia ib
  by_cases h0 : 100 < a.length
  · have d : decide ((100 : Int) < (a.length : Int)) = true := by simp; omega
    go_enter Try.func3, Try.ntmps3
    go_wp2_with fail
    refine Calls.mono (HK.out.1 _) ?_
    rintro e w1 ⟨rfl, hb1⟩
    go_wp2_with fail
    go_ret
    exact ⟨rfl, hb1⟩
  have dh0 : decide ((100 : Int) < (a.length : Int)) = false := by simp; omega
  by_cases h1 : 100 < b.length
  · have d : decide ((100 : Int) < (b.length : Int)) = true := by simp; omega
    go_enter Try.func3, Try.ntmps3
    go_wp2_with fail
    refine Calls.mono (HK.out.1 _) ?_
    rintro e w1 ⟨rfl, hb1⟩
    go_wp2_with fail
    go_ret
    exact ⟨rfl, hb1⟩
  have dh1 : decide ((100 : Int) < (b.length : Int)) = false := by simp; omega
  have ln0 : a.length ≤ 100 := by omega
  have ln1 : b.length ≤ 100 := by omega
  go_enter Try.func3, Try.ntmps3
  go_wp2_with fail
  refine Calls.mono (HK.out.1 _) ?_
  rintro e w1 ⟨rfl, hb1⟩
  have HB : Hid (Below w.heap.size w w1) := hb1
  clear hb1
  go_wp2_with fail
  refine Calls.mono (of_p _ a w1 (HK.out.2.1.below HB.out) (by omega)) ?_
  rintro e w2 ⟨vx, x, rfl, hx, ox, lx, hb2⟩
  obtain ⟨xa, xc, rfl⟩ := own_form ox
  have HB2 : Hid (Below w.heap.size w w2) := HB.out.trans (hb2.mono HB.out.size)
  have HX : Hid (OfS a x ∧ Sl .i32 w2 (.slice xa x.length xc) x) := And.intro hx ox.sl
  clear hb2 hx ox
  go_wp2_with fail
  refine Calls.mono (of_p _ b w2 (HK.out.2.2.1.below HB2.out) (by omega)) ?_
  rintro e w3 ⟨vy, y, rfl, hy, oy, ly, hb3⟩
  obtain ⟨ya, yc, rfl⟩ := own_form oy
  have HB3 : Hid (Below w.heap.size w w3) := HB2.out.trans (hb3.mono HB2.out.size)
  have HY : Hid (OfS b y ∧ Sl .i32 w3 (.slice ya y.length yc) y ∧ Sl .i32 w3 (.slice xa x.length xc) x) := And.intro hy (And.intro oy.sl (HX.out.2.below hb3))
  clear hb3 hy oy
  go_wp2_with fail
  refine Calls.mono (ofr_r _ a w3 (HK.out.2.1.below HB3.out) HK.out.2.2.2.1 (by omega)) ?_
  rintro e w4 ⟨a4, c4, rfl, o4, hb4⟩
  have HB4 : Hid (Below w.heap.size w w4 ∧ Below w3.heap.size w3 w4 ∧ Sl .i64 w4 (.slice a4 a.length c4) a) := ⟨HB3.out.trans (hb4.mono HB3.out.size), hb4, o4.sl⟩
  clear hb4 o4
  go_wp2_with fail
  refine Calls.mono (rof_r _ a w4 HB4.out.2.2 (by omega)) ?_
  rintro e w5 ⟨p5, q5, rfl, o5, hb5⟩
  have e5 := of_same HX.out.1
  rw [e5] at o5 ⊢
  have HB5 : Hid (Below w.heap.size w w5 ∧ Below w3.heap.size w3 w5 ∧ Sl .i64 w5 (.slice p5 x.length q5) x) := ⟨HB4.out.1.trans (hb5.mono HB4.out.1.size), HB4.out.2.1.trans (hb5.mono HB4.out.2.1.size), o5.sl⟩
  clear hb5 o5 e5
  have hx5 := nw_heap w5 (.cells #[.slice p5 x.length q5] 28)
  have hb5 : Below w5.heap.size w5 (w5.alloc (.cells #[.slice p5 x.length q5] 28)) := (Below.refl _ _).alloc (Nat.le_refl _) _
  go_upto_region 8 with fail
  obtain ⟨U5, hU5⟩ : ∃ U, w5.alloc (.cells #[.slice p5 x.length q5] 28) = U := ⟨_, rfl⟩
  rw [hU5] at hx5 hb5 ⊢
  have H5 : Hid (U5.heap[w5.heap.size]? = some (.cells #[.slice p5 x.length q5] 28 (0, 0)) ∧ Below w.heap.size w U5 ∧ Below w3.heap.size w3 U5 ∧ Sl .i64 U5 (.slice p5 x.length q5) x) := ⟨hx5, HB5.out.1.trans (hb5.mono HB5.out.1.size), HB5.out.2.1.trans (hb5.mono HB5.out.2.1.size), HB5.out.2.2.below hb5⟩
  clear hx5 hb5 hU5
  go_wp2_with fail
  refine Calls.mono (ofr_r _ b U5 (HK.out.2.2.1.below H5.out.2.1) HK.out.2.2.2.2 (by omega)) ?_
  rintro e w6 ⟨a6, c6, rfl, o6, hb6⟩
  have HB6 : Hid (Below U5.heap.size U5 w6 ∧ Sl .i64 w6 (.slice a6 b.length c6) b) := ⟨hb6, o6.sl⟩
  clear hb6 o6
  go_wp2_with fail
  refine Calls.mono (rof_r _ b w6 HB6.out.2 (by omega)) ?_
  rintro e w7 ⟨p7, q7, rfl, o7, hb7⟩
  have e7 := of_same HY.out.1
  rw [e7] at o7 ⊢
  have HB7 : Hid (Below U5.heap.size U5 w7 ∧ Sl .i64 w7 (.slice p7 y.length q7) y) := ⟨HB6.out.1.trans (hb7.mono HB6.out.1.size), o7.sl⟩
  clear hb7 o7 e7
  have hx7 := nw_heap w7 (.cells #[.slice p7 y.length q7] 28)
  have hb7 : Below w7.heap.size w7 (w7.alloc (.cells #[.slice p7 y.length q7] 28)) := (Below.refl _ _).alloc (Nat.le_refl _) _
  go_upto_region 9 with fail
  obtain ⟨V, hV⟩ : ∃ U, w7.alloc (.cells #[.slice p7 y.length q7] 28) = U := ⟨_, rfl⟩
  rw [hV] at hx7 hb7 ⊢
  have hUV : Below U5.heap.size U5 V := HB7.out.1.trans (hb7.mono HB7.out.1.size)
  have hwV : Below w.heap.size w V := H5.out.2.1.trans (hUV.mono H5.out.2.1.size)
  have h3V : Below w3.heap.size w3 V := H5.out.2.2.1.trans (hUV.mono H5.out.2.2.1.size)
  have hB1 := (hUV.block _ (lt_of H5.out.1)).trans H5.out.1
  have fS : ∀ U, Below V.heap.size V U → U.cell? ⟨w5.heap.size, 0, none⟩ = some (.slice p5 x.length q5) ∧ U.cell? ⟨w7.heap.size, 0, none⟩ = some (.slice p7 y.length q7) := fun U hU =>
    ⟨(blk1 ((hU.block _ (lt_of hB1)).trans hB1)).1, (blk1 ((hU.block _ (lt_of hx7)).trans hx7)).1⟩
  have fx : ∀ U, Below V.heap.size V U → Sl .i32 U (.slice xa x.length xc) x := fun U hU => (HY.out.2.2.below h3V).below hU
  have fy : ∀ U, Below V.heap.size V U → Sl .i32 U (.slice ya y.length yc) y := fun U hU => (HY.out.2.1.below h3V).below hU
  have fa : ∀ U, Below V.heap.size V U → Sl .i32 U (.slice aa a.length ac) a := fun U hU => (HK.out.2.1.below hwV).below hU
  have fp : ∀ U, Below V.heap.size V U → Sl .i64 U (.slice p5 x.length q5) x := fun U hU => (H5.out.2.2.2.below hUV).below hU
  have fq : ∀ U, Below V.heap.size V U → Sl .i64 U (.slice p7 y.length q7) y := fun U hU => (HB7.out.2.below hb7).below hU
  have cx := HX.out.1.cn
  have cy := HY.out.1.cn
  have HF : Hid ((∀ U, Below V.heap.size V U → Sl .i32 U (.slice xa x.length xc) x) ∧ (∀ U, Below V.heap.size V U → Sl .i32 U (.slice ya y.length yc) y) ∧ (∀ U, Below V.heap.size V U → Sl .i32 U (.slice aa a.length ac) a) ∧ (∀ U, Below V.heap.size V U → Sl .i64 U (.slice p5 x.length q5) x) ∧ (∀ U, Below V.heap.size V U → Sl .i64 U (.slice p7 y.length q7) y)) := ⟨fx, fy, fa, fp, fq⟩
  have HFS : Hid (∀ U, Below V.heap.size V U → U.cell? ⟨w5.heap.size, 0, none⟩ = some (.slice p5 x.length q5) ∧ U.cell? ⟨w7.heap.size, 0, none⟩ = some (.slice p7 y.length q7)) := fS
  have HN : Hid (Cn x ∧ Cn y ∧ In32 x ∧ In32 y ∧ In32 a ∧ Below w.heap.size w V ∧ x.length ≤ 100 ∧ y.length ≤ 100 ∧ a.length ≤ 100) := ⟨cx, cy, cn_in32 cx, cn_in32 cy, HK.out.2.2.2.1, hwV, by omega, by omega, by omega⟩
  have HC : Hid (Below V.heap.size V V.drew) := bdrewN (Below.refl _ _) 1
  have hw : IntKind.i64.wrap r = r := by rw [IntKind.wrap_i64]; omega
  obtain ⟨T, hT⟩ : ∃ T, rtB 0 a = T := ⟨_, rfl⟩
  obtain ⟨Z, hZ⟩ : ∃ Z, sz x = Z := ⟨_, rfl⟩
  obtain ⟨M, hM⟩ : ∃ M, memB x r = M := ⟨_, rfl⟩
  have HT : Hid (rtB 0 a = T ∧ sz x = Z ∧ memB x r = M) := ⟨hT, hZ, hM⟩
  have tT : (T != T) = false := by simp
  have tZ : (Z != Z) = false := by simp
  have tM : (M != M) = false := by simp
  clear hT hZ hM fS fx fy fa fp fq cx cy hUV hwV h3V hB1 hx7 hb7 hV HB HB2 HB3 HB4 HB5 HB6 HB7 H5 HX HY dh0 dh1 h0 h1 ir
  go_region_held_law (fun U => U.cell? ⟨w5.heap.size, 0, none⟩ = some (.slice p5 x.length q5) ∧ U.cell? ⟨w7.heap.size, 0, none⟩ = some (.slice p7 y.length q7)) (first | with_reducible exact HFS.out _ HC.out | fail)
    (first
      | (go_at_call 12; have hq := same_rt (.slice a10 x.length c10) (.slice p5 x.length q5) x _ HR10.out (HF.out.2.2.2.1 _ HC.out) (by have := HN.out.2.2.2.2.2.2.1; omega); (with_reducible refine Calls.mono hq ?_); clear hq; rintro e w11 ⟨rfl, hb11⟩; have hc11 := HC.out.trans (hb11.mono HC.out.size); clear HC; have HC : Hid (Below V.heap.size V w11) := hc11; clear hc11; clear hb11 HR10)
      | (go_at_call 12; have hq := same_rt (.slice a12 y.length c12) (.slice p7 y.length q7) y _ HR12.out (HF.out.2.2.2.2 _ HC.out) (by have := HN.out.2.2.2.2.2.2.2.1; omega); (with_reducible refine Calls.mono hq ?_); clear hq; rintro e w13 ⟨rfl, hb13⟩; have hc13 := HC.out.trans (hb13.mono HC.out.size); clear HC; have HC : Hid (Below V.heap.size V w13) := hc13; clear hc13; clear hb13 HR12)
      | (go_at_call 13; have hq := ofs_r (.slice xa x.length xc) x _ (HF.out.1 _ HC.out) HN.out.2.2.1 (by have := HN.out.2.2.2.2.2.2.1; omega); (with_reducible refine Calls.mono hq ?_); clear hq; rintro e w10 ⟨a10, c10, rfl, o10, hb10⟩; have hc10 := HC.out.trans (hb10.mono HC.out.size); clear HC; have HC : Hid (Below V.heap.size V w10) := hc10; clear hc10; have HR10 : Hid (Sl .i64 w10 (.slice a10 (x).length c10) (x)) := o10.sl; clear o10 hb10)
      | (go_at_call 13; have hq := ofs_r (.slice ya y.length yc) y _ (HF.out.2.1 _ HC.out) HN.out.2.2.2.1 (by have := HN.out.2.2.2.2.2.2.2.1; omega); (with_reducible refine Calls.mono hq ?_); clear hq; rintro e w12 ⟨a12, c12, rfl, o12, hb12⟩; have hc12 := HC.out.trans (hb12.mono HC.out.size); clear HC; have HC : Hid (Below V.heap.size V w12) := hc12; clear hc12; have HR12 : Hid (Sl .i64 w12 (.slice a12 (y).length c12) (y)) := o12.sl; clear o12 hb12)
      | (go_at_call 13; have hq := ofs_r (.slice aa a.length ac) a _ (HF.out.2.2.1 _ HC.out) HN.out.2.2.2.2.1 (by have := HN.out.2.2.2.2.2.2.2.2; omega); (with_reducible refine Calls.mono hq ?_); clear hq; rintro e w16 ⟨a16, c16, rfl, o16, hb16⟩; have hc16 := HC.out.trans (hb16.mono HC.out.size); clear HC; have HC : Hid (Below V.heap.size V w16) := hc16; clear hc16; have HR16 : Hid (Sl .i64 w16 (.slice a16 (a).length c16) (a)) := o16.sl; clear o16 hb16)
      | (go_at_call 14; have hq := right_t (.slice xa x.length xc) x _ (HF.out.1 _ HC.out) HN.out.1 (by have := HN.out.2.2.2.2.2.2.1; omega); (with_reducible refine Calls.mono hq ?_); clear hq; rintro e w14 ⟨rfl, hb14⟩; have hc14 := HC.out.trans (hb14.mono HC.out.size); clear HC; have HC : Hid (Below V.heap.size V w14) := hc14; clear hc14; clear hb14)
      | (go_at_call 14; have hq := right_p (.slice aa a.length ac) a _ (HF.out.2.2.1 _ HC.out) (by have := HN.out.2.2.2.2.2.2.2.2; omega); rw [HT.out.1] at hq; (with_reducible refine Calls.mono hq ?_); clear hq; rintro e w15 ⟨rfl, hb15⟩; have hc15 := HC.out.trans (hb15.mono HC.out.size); clear HC; have HC : Hid (Below V.heap.size V w15) := hc15; clear hc15; clear hb15)
      | (go_at_call 15; have hq := rright_r (.slice a16 a.length c16) a _ HR16.out (by have := HN.out.2.2.2.2.2.2.2.2; omega); rw [HT.out.1] at hq; (with_reducible refine Calls.mono hq ?_); clear hq; rintro e w17 ⟨rfl, hb17⟩; have hc17 := HC.out.trans (hb17.mono HC.out.size); clear HC; have HC : Hid (Below V.heap.size V w17) := hc17; clear hc17; clear hb17 HR16)
      | (go_at_call 16; have hq := size_p (.slice xa x.length xc) x _ (HF.out.1 _ HC.out) HN.out.1 (by have := HN.out.2.2.2.2.2.2.1; omega); rw [HT.out.2.1] at hq; (with_reducible refine Calls.mono hq ?_); clear hq; rintro e w18 ⟨rfl, hb18⟩; have hc18 := HC.out.trans (hb18.mono HC.out.size); clear HC; have HC : Hid (Below V.heap.size V w18) := hc18; clear hc18; clear hb18)
      | (go_at_call 17; have hq := rsize_r (.slice p5 x.length q5) x _ (HF.out.2.2.2.1 _ HC.out) HN.out.1 (by have := HN.out.2.2.2.2.2.2.1; omega); rw [HT.out.2.1] at hq; (with_reducible refine Calls.mono hq ?_); clear hq; rintro e w19 ⟨rfl, hb19⟩; have hc19 := HC.out.trans (hb19.mono HC.out.size); clear HC; have HC : Hid (Below V.heap.size V w19) := hc19; clear hc19; clear hb19)
      | (go_at_call 18; have hq := has_p (.slice xa x.length xc) x r _ (HF.out.1 _ HC.out) HN.out.1 (by have := HN.out.2.2.2.2.2.2.1; omega); rw [HT.out.2.2] at hq; (with_reducible refine Calls.mono hq ?_); clear hq; rintro e w20 ⟨rfl, hb20⟩; have hc20 := HC.out.trans (hb20.mono HC.out.size); clear HC; have HC : Hid (Below V.heap.size V w20) := hc20; clear hc20; clear hb20)
      | (go_at_call 19; have hq := rhas_r (.slice p5 x.length q5) x r _ (HF.out.2.2.2.1 _ HC.out) (by have := HN.out.2.2.2.2.2.2.1; omega); rw [HT.out.2.2] at hq; (with_reducible refine Calls.mono hq ?_); clear hq; rintro e w21 ⟨rfl, hb21⟩; have hc21 := HC.out.trans (hb21.mono HC.out.size); clear HC; have HC : Hid (Below V.heap.size V w21) := hc21; clear hc21; clear hb21)
      | fail)
  clear HT tT tZ tM hw
  go_upto_region 11 with fail
  have hcd : Below V.heap.size V w21.drew := bdrewN HC.out 1
  clear HC
  have HC : Hid (Below V.heap.size V w21.drew) := hcd
  clear hcd
  obtain ⟨D, hD⟩ : ∃ D, decide (x = y) = D := ⟨_, rfl⟩
  have HD : Hid (decide (x = y) = D) := hD
  have tD : (D == D) = true := by simp
  clear hD
  go_region_held_law (fun U => U.cell? ⟨w5.heap.size, 0, none⟩ = some (.slice p5 x.length q5) ∧ U.cell? ⟨w7.heap.size, 0, none⟩ = some (.slice p7 y.length q7)) (first | with_reducible exact HFS.out _ HC.out | fail)
    (first
      | (go_at_call 12; have hq := same_rt (.slice a31 n30.length c31) (.slice a32 n30.length c32) n30 _ HE32.out.2 HE32.out.1 (by have := HP30.out.2.2.1; omega); (with_reducible refine Calls.mono hq ?_); clear hq; rintro e w33 ⟨rfl, hb33⟩; have hc33 := HC.out.trans (hb33.mono HC.out.size); clear HC; have HC : Hid (Below V.heap.size V w33) := hc33; clear hc33; clear hb33 HE32)
      | (go_at_call 12; have hq := same_rt (.slice a41 n40.length c41) (.slice a42 n40.length c42) n40 _ HE42.out.2 HE42.out.1 (by have := HP40.out.2.2.1; omega); (with_reducible refine Calls.mono hq ?_); clear hq; rintro e w43 ⟨rfl, hb43⟩; have hc43 := HC.out.trans (hb43.mono HC.out.size); clear HC; have HC : Hid (Below V.heap.size V w43) := hc43; clear hc43; clear hb43 HE42)
      | (go_at_call 12; have hq := same_rt (.slice a51 n50.length c51) (.slice a52 n50.length c52) n50 _ HE52.out.2 HE52.out.1 (by have := HP50.out.2.2.1; omega); (with_reducible refine Calls.mono hq ?_); clear hq; rintro e w53 ⟨rfl, hb53⟩; have hc53 := HC.out.trans (hb53.mono HC.out.size); clear HC; have HC : Hid (Below V.heap.size V w53) := hc53; clear hc53; clear hb53 HE52)
      | (go_at_call 12; have hq := same_rt (.slice a61 n60.length c61) (.slice a62 n60.length c62) n60 _ HE62.out.2 HE62.out.1 (by have := HP60.out.2.2.1; omega); (with_reducible refine Calls.mono hq ?_); clear hq; rintro e w63 ⟨rfl, hb63⟩; have hc63 := HC.out.trans (hb63.mono HC.out.size); clear HC; have HC : Hid (Below V.heap.size V w63) := hc63; clear hc63; clear hb63 HE62)
      | (go_at_call 20; have hq := not_p (.slice xa x.length xc) x _ (HF.out.1 _ HC.out) HN.out.1 (by have := HN.out.2.2.2.2.2.2.1; omega); (with_reducible refine Calls.mono hq ?_); clear hq; rintro e w30 ⟨v30, n30, rfl, h30, o30, l30, hb30⟩; obtain ⟨a30, c30, rfl⟩ := own_form o30; have hc30 := HC.out.trans (hb30.mono HC.out.size); clear HC; have HC : Hid (Below V.heap.size V w30) := hc30; clear hc30; have HP30 : Hid (Sl .i32 w30 (.slice a30 n30.length c30) n30 ∧ Cn n30 ∧ n30.length ≤ 100000 ∧ notR 0 x = n30) := And.intro o30.sl (And.intro h30.cn (And.intro (by have := HN.out.2.2.2.2.2.2.1; have := HN.out.2.2.2.2.2.2.2.1; omega) (not_same HN.out.1 h30))); clear o30 hb30 h30 l30)
      | (go_at_call 13; have hq := ofs_r (.slice a30 n30.length c30) n30 _ HP30.out.1 (cn_in32 HP30.out.2.1) HP30.out.2.2.1; (with_reducible refine Calls.mono hq ?_); clear hq; rintro e w31 ⟨a31, c31, rfl, o31, hb31⟩; have hc31 := HC.out.trans (hb31.mono HC.out.size); clear HC; have HC : Hid (Below V.heap.size V w31) := hc31; clear hc31; have HR31 : Hid (Sl .i64 w31 (.slice a31 n30.length c31) n30) := o31.sl; clear o31 hb31)
      | (go_at_call 21; have hq := rnot_r (.slice p5 x.length q5) x _ (HF.out.2.2.2.1 _ HC.out) HN.out.1 (by have := HN.out.2.2.2.2.2.2.1; omega); rw [HP30.out.2.2.2] at hq; (with_reducible refine Calls.mono hq ?_); clear hq; rintro e w32 ⟨a32, c32, rfl, o32, hb32⟩; have hc32 := HC.out.trans (hb32.mono HC.out.size); clear HC; have HC : Hid (Below V.heap.size V w32) := hc32; clear hc32; have HE32 : Hid (Sl .i64 w32 (.slice a32 n30.length c32) n30 ∧ Sl .i64 w32 (.slice a31 n30.length c31) n30) := And.intro o32.sl (Sl.below HR31.out hb32); clear o32 hb32 HR31)
      | (go_at_call 22; have hq := union_p (.slice xa x.length xc) (.slice ya y.length yc) x y _ (HF.out.1 _ HC.out) (HF.out.2.1 _ HC.out) (by have := HN.out.2.2.2.2.2.2.1; have := HN.out.2.2.2.2.2.2.2.1; omega); (with_reducible refine Calls.mono hq ?_); clear hq; rintro e w40 ⟨v40, n40, rfl, h40, o40, l40, hb40⟩; obtain ⟨a40, c40, rfl⟩ := own_form o40; have hc40 := HC.out.trans (hb40.mono HC.out.size); clear HC; have HC : Hid (Below V.heap.size V w40) := hc40; clear hc40; have HP40 : Hid (Sl .i32 w40 (.slice a40 n40.length c40) n40 ∧ Cn n40 ∧ n40.length ≤ 100000 ∧ ofR (x ++ y) = n40) := And.intro o40.sl (And.intro h40.cn (And.intro (by have := HN.out.2.2.2.2.2.2.1; have := HN.out.2.2.2.2.2.2.2.1; omega) (of_same h40))); clear o40 hb40 h40 l40)
      | (go_at_call 13; have hq := ofs_r (.slice a40 n40.length c40) n40 _ HP40.out.1 (cn_in32 HP40.out.2.1) HP40.out.2.2.1; (with_reducible refine Calls.mono hq ?_); clear hq; rintro e w41 ⟨a41, c41, rfl, o41, hb41⟩; have hc41 := HC.out.trans (hb41.mono HC.out.size); clear HC; have HC : Hid (Below V.heap.size V w41) := hc41; clear hc41; have HR41 : Hid (Sl .i64 w41 (.slice a41 n40.length c41) n40) := o41.sl; clear o41 hb41)
      | (go_at_call 23; have hq := runion_r (.slice p5 x.length q5) (.slice p7 y.length q7) x y _ (HF.out.2.2.2.1 _ HC.out) (HF.out.2.2.2.2 _ HC.out) (by have := HN.out.2.2.2.2.2.2.1; have := HN.out.2.2.2.2.2.2.2.1; omega); rw [HP40.out.2.2.2] at hq; (with_reducible refine Calls.mono hq ?_); clear hq; rintro e w42 ⟨a42, c42, rfl, o42, hb42⟩; have hc42 := HC.out.trans (hb42.mono HC.out.size); clear HC; have HC : Hid (Below V.heap.size V w42) := hc42; clear hc42; have HE42 : Hid (Sl .i64 w42 (.slice a42 n40.length c42) n40 ∧ Sl .i64 w42 (.slice a41 n40.length c41) n40) := And.intro o42.sl (Sl.below HR41.out hb42); clear o42 hb42 HR41)
      | (go_at_call 24; have hq := both_p (.slice xa x.length xc) (.slice ya y.length yc) x y _ (HF.out.1 _ HC.out) (HF.out.2.1 _ HC.out) (by have := HN.out.2.2.2.2.2.2.1; have := HN.out.2.2.2.2.2.2.2.1; omega); (with_reducible refine Calls.mono hq ?_); clear hq; rintro e w50 ⟨v50, n50, rfl, h50, o50, l50, hb50⟩; obtain ⟨a50, c50, rfl⟩ := own_form o50; have hc50 := HC.out.trans (hb50.mono HC.out.size); clear HC; have HC : Hid (Below V.heap.size V w50) := hc50; clear hc50; have HP50 : Hid (Sl .i32 w50 (.slice a50 n50.length c50) n50 ∧ Cn n50 ∧ n50.length ≤ 100000 ∧ bthR x y = n50) := And.intro o50.sl (And.intro h50.cn (And.intro (by have := HN.out.2.2.2.2.2.2.1; have := HN.out.2.2.2.2.2.2.2.1; omega) (both_same HN.out.1 HN.out.2.1 (both_S HN.out.1 HN.out.2.1 h50)))); clear o50 hb50 h50 l50)
      | (go_at_call 13; have hq := ofs_r (.slice a50 n50.length c50) n50 _ HP50.out.1 (cn_in32 HP50.out.2.1) HP50.out.2.2.1; (with_reducible refine Calls.mono hq ?_); clear hq; rintro e w51 ⟨a51, c51, rfl, o51, hb51⟩; have hc51 := HC.out.trans (hb51.mono HC.out.size); clear HC; have HC : Hid (Below V.heap.size V w51) := hc51; clear hc51; have HR51 : Hid (Sl .i64 w51 (.slice a51 n50.length c51) n50) := o51.sl; clear o51 hb51)
      | (go_at_call 25; have hq := rboth_r (.slice p5 x.length q5) (.slice p7 y.length q7) x y _ (HF.out.2.2.2.1 _ HC.out) (HF.out.2.2.2.2 _ HC.out) HN.out.1 HN.out.2.1 (by have := HN.out.2.2.2.2.2.2.1; have := HN.out.2.2.2.2.2.2.2.1; omega); rw [HP50.out.2.2.2] at hq; (with_reducible refine Calls.mono hq ?_); clear hq; rintro e w52 ⟨a52, c52, rfl, o52, hb52⟩; have hc52 := HC.out.trans (hb52.mono HC.out.size); clear HC; have HC : Hid (Below V.heap.size V w52) := hc52; clear hc52; have HE52 : Hid (Sl .i64 w52 (.slice a52 n50.length c52) n50 ∧ Sl .i64 w52 (.slice a51 n50.length c51) n50) := And.intro o52.sl (Sl.below HR51.out hb52); clear o52 hb52 HR51)
      | (go_at_call 26; have hq := minus_p (.slice xa x.length xc) (.slice ya y.length yc) x y _ (HF.out.1 _ HC.out) (HF.out.2.1 _ HC.out) HN.out.1 HN.out.2.1 (by have := HN.out.2.2.2.2.2.2.1; have := HN.out.2.2.2.2.2.2.2.1; omega); (with_reducible refine Calls.mono hq ?_); clear hq; rintro e w60 ⟨v60, n60, m60, rfl, h60, k60, o60, l60, hb60⟩; obtain ⟨a60, c60, rfl⟩ := own_form o60; have hc60 := HC.out.trans (hb60.mono HC.out.size); clear HC; have HC : Hid (Below V.heap.size V w60) := hc60; clear hc60; have HP60 : Hid (Sl .i32 w60 (.slice a60 n60.length c60) n60 ∧ Cn n60 ∧ n60.length ≤ 100000 ∧ minR x y = n60) := And.intro o60.sl (And.intro k60.cn (And.intro (by have := HN.out.2.2.2.2.2.2.1; have := HN.out.2.2.2.2.2.2.2.1; omega) (minus_same HN.out.1 HN.out.2.1 h60 k60))); clear o60 hb60 h60 k60 l60)
      | (go_at_call 13; have hq := ofs_r (.slice a60 n60.length c60) n60 _ HP60.out.1 (cn_in32 HP60.out.2.1) HP60.out.2.2.1; (with_reducible refine Calls.mono hq ?_); clear hq; rintro e w61 ⟨a61, c61, rfl, o61, hb61⟩; have hc61 := HC.out.trans (hb61.mono HC.out.size); clear HC; have HC : Hid (Below V.heap.size V w61) := hc61; clear hc61; have HR61 : Hid (Sl .i64 w61 (.slice a61 n60.length c61) n60) := o61.sl; clear o61 hb61)
      | (go_at_call 27; have hq := rminus_r (.slice p5 x.length q5) (.slice p7 y.length q7) x y _ (HF.out.2.2.2.1 _ HC.out) (HF.out.2.2.2.2 _ HC.out) HN.out.1 HN.out.2.1 (by have := HN.out.2.2.2.2.2.2.1; have := HN.out.2.2.2.2.2.2.2.1; omega); rw [HP60.out.2.2.2] at hq; (with_reducible refine Calls.mono hq ?_); clear hq; rintro e w62 ⟨a62, c62, rfl, o62, hb62⟩; have hc62 := HC.out.trans (hb62.mono HC.out.size); clear HC; have HC : Hid (Below V.heap.size V w62) := hc62; clear hc62; have HE62 : Hid (Sl .i64 w62 (.slice a62 n60.length c62) n60 ∧ Sl .i64 w62 (.slice a61 n60.length c61) n60) := And.intro o62.sl (Sl.below HR61.out hb62); clear o62 hb62 HR61)
      | (go_at_call 28; have hq := same_p (.slice xa x.length xc) (.slice ya y.length yc) x y _ (HF.out.1 _ HC.out) (HF.out.2.1 _ HC.out) (by have := HN.out.2.2.2.2.2.2.1; omega) (by have := HN.out.2.2.2.2.2.2.2.1; omega); rw [HD.out] at hq; (with_reducible refine Calls.mono hq ?_); clear hq; rintro e w70 ⟨rfl, hb70⟩; have hc70 := HC.out.trans (hb70.mono HC.out.size); clear HC; have HC : Hid (Below V.heap.size V w70) := hc70; clear hc70; clear hb70)
      | (go_at_call 12; have hq := same_r (.slice p5 x.length q5) (.slice p7 y.length q7) x y _ (HF.out.2.2.2.1 _ HC.out) (HF.out.2.2.2.2 _ HC.out) (by have := HN.out.2.2.2.2.2.2.1; omega) (by have := HN.out.2.2.2.2.2.2.2.1; omega); rw [HD.out] at hq; (with_reducible refine Calls.mono hq ?_); clear hq; rintro e w71 ⟨rfl, hb71⟩; have hc71 := HC.out.trans (hb71.mono HC.out.size); clear HC; have HC : Hid (Below V.heap.size V w71) := hc71; clear hc71; clear hb71)
      | fail)
  all_goals
    go_wp2_with fail
    go_ret
    exact ⟨rfl, HN.out.2.2.2.2.2.1.trans (HC.out.mono HN.out.2.2.2.2.2.1.size)⟩
end Go.Proofs.Yteddjjabbehfdaa
