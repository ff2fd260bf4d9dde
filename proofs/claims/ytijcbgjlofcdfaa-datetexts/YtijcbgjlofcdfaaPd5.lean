/- The program's CmpSpan. -/
import Derived.Test.YtijcbgjlofcdfaaPd4
namespace Go.Proofs.Ytijcbgjlofcdfaa
open Go.RowKit
set_option linter.unusedVariables false

structure SpT (p : Sp) : Prop where
  o0 : -20000000000 < p.o
  o1 : p.o < 20000000000
  s0 : -1000000000000000 < p.s
  s1 : p.s < 1000000000000000
  n0 : -10000000000 < p.n
  n1 : p.n < 10000000000
theorem SpT.b {p : Sp} (h : SpT p) : SpB p := by
  obtain ⟨o0, o1, s0, s1, n0, n1⟩ := h
  exact ⟨by omega, by omega, by omega, by omega, by omega, by omega⟩
theorem MoOk.b {a : Mo} (h : MoOk a) (y0 : -3000000000 < a.y) (y1 : a.y < 3000000000) : MoB a := by
  obtain ⟨hy, m0, m1, d0, d1, s0, s1, n0, n1⟩ := h
  have := (len_in (l := lnY a.y) m0 m1).2
  exact ⟨by omega, by omega, by omega, by omega, by omega, by omega, by omega, by omega, by omega, by omega⟩
theorem civL_in {n : Int} (h0 : -2000000000000 < n) (h1 : n < 2000000000000) : -6000000000 < civL n ∧ civL n < 6000000000 := by
  obtain ⟨a, b⟩ := (civ_is n).within
  have hb : ahd 2000 = 730485 := by decide
  rw [hb] at a b
  generalize civL n = l at *
  unfold ahd at a b
  omega
theorem add_in {a : Mo} {p : Sp} (ha : MoOk a) (y0 : -3000000000 < a.y) (y1 : a.y < 3000000000) (hp : SpT p) : -7000000000 < (addM a p).y ∧ (addM a p).y < 7000000000 := by
  obtain ⟨hy, m0, m1, d0, d1, s0, s1, n0, n1⟩ := ha
  obtain ⟨o0, o1, ps0, ps1, pn0, pn1⟩ := hp
  have hl : -4900000000 < addL a p ∧ addL a p < 4900000000 := by
    have : -3000000000 < lnY a.y ∧ lnY a.y < 3000000001 := by unfold lnY; split <;> omega
    unfold addL
    omega
  have hO : 1 ≤ addO a p ∧ addO a p ≤ 12 := by unfold addO; omega
  have hC : -100 < addC a p ∧ addC a p < 100 := by
    have := len_in (l := addL a p) hO.1 hO.2
    have := len_in (l := lnY a.y) m0 m1
    unfold addC
    split <;> omega
  have hT : -20000000000 < addT a p / 86400 ∧ addT a p / 86400 < 20000000000 := by unfold addT; omega
  have hN : -1950000000000 < addN a p ∧ addN a p < 1950000000000 := by
    unfold addN daysS dayN
    rw [ln_bk, show (addO a p - 1) / 12 = 0 by omega, Int.add_zero, Nat.add_sub_cancel]
    have := cum_nonneg (addL a p) ((addO a p - 1) % 12).toNat
    have := cum_le (addL a p) (show ((addO a p - 1) % 12).toNat ≤ 12 by omega)
    have ha : -1900000000000 < ahd (addL a p) ∧ ahd (addL a p) < 1900000000000 := by unfold ahd; omega
    have hb : ahd 2000 = 730485 := by decide
    omega
  have hc := civL_in (n := addN a p) (by omega) (by omega)
  unfold addM bkY
  dsimp only
  split <;> omega
theorem add_L {a : Mo} {p : Sp} (ha : MoOk a) (y0 : -3000000000 < a.y) (y1 : a.y < 3000000000) (z0 : -1000000 < a.z) (z1 : a.z < 1000000) (hp : SpT p) : MoL (addM a p) := by
  obtain ⟨hy0, hy1⟩ := add_in ha y0 y1 hp
  obtain ⟨hy, m0, m1, d0, d1, s0, s1, n0, n1⟩ := MoOk.add a p
  have := (len_in (l := lnY (addM a p).y) m0 m1).2
  exact ⟨⟨by omega, by omega, by omega, by omega, by omega, by omega, by omega, by omega, by omega, by omega⟩, n0, n1, z0, z1⟩
theorem ref_ok {y m : Int} (hy : y ≠ 0) (m0 : 1 ≤ m) (m1 : m ≤ 12) : MoOk (refM y m) := by
  have := (len_in (l := lnY y) m0 m1).1
  exact ⟨hy, m0, m1, by simp [refM], by simp only [refM]; omega, by simp [refM], by simp [refM], by simp [refM], by simp [refM]⟩
abbrev spC (p : Sp) : Array Value := #[.int .i64 p.o, .int .i64 p.s, .int .i64 p.n]
set_option maxHeartbeats 1000000 in
theorem from_c (y m : Int) (a b : Sp) (A B : Nat) (w : World) (hA : w.heap[A]? = some (.cells (spC a) 32 (0, 0))) (hB : w.heap[B]? = some (.cells (spC b) 32 (0, 0))) (hy : y ≠ 0) (y0 : 0 < y) (y1 : y < 10000) (m0 : 1 ≤ m) (m1 : m ≤ 12) (ha : SpT a) (hb : SpT b) :
    Calls Try.prog 45 #[.int .i64 y, .int .i64 m, .pointer (some ⟨A, 0, none⟩), .pointer (some ⟨B, 0, none⟩)] w fun e w' => e = .returned (.int .i64 (cmp4 y m a b)) ∧ Below w.heap.size w w' := by
  have hr := ref_ok hy m0 m1
  have q1 := fun W : World => add_p (refM y m) a W (hr.b (by simp only [refM]; omega) (by simp only [refM]; omega)) ha.b
  have q2 := fun W : World => add_p (refM y m) b W (hr.b (by simp only [refM]; omega) (by simp only [refM]; omega)) hb.b
  have q3 := fun W : World => cmp_p (addM (refM y m) a) (addM (refM y m) b) W (add_L hr (by simp only [refM]; omega) (by simp only [refM]; omega) (by simp [refM]) (by simp [refM]) ha) (add_L hr (by simp only [refM]; omega) (by simp only [refM]; omega) (by simp [refM]) (by simp [refM]) hb)
  unfold cmp4
  have e0 : moV (refM y m) = .agg #[.int .i64 1, .int .i64 y, .int .i64 m, .int .i64 1, .int .i64 0, .int .i64 0, .bool false, .int .i64 0] := rfl
  rw [e0] at q1 q2
  clear e0
  generalize addM (refM y m) a = r1 at *
  generalize addM (refM y m) b = r2 at *
  have hz : Below w.heap.size w (w.alloc (.cells #[.int .i64 1, .int .i64 y, .int .i64 m, .int .i64 1, .int .i64 0, .int .i64 0, .bool false, .int .i64 0] 24)) := (Below.refl _ _).alloc (Nat.le_refl _) _
  have x1 := nw_heap w (.cells #[.int .i64 1, .int .i64 y, .int .i64 m, .int .i64 1, .int .i64 0, .int .i64 0, .bool false, .int .i64 0] 24)
  have HC : Hid _ := And.intro q1 (And.intro q2 (And.intro q3 hz))
  clear q1 q2 q3 hr ha hb
  go_enter Try.func45, Try.ntmps45
  go_wp2_with fail
  have hA2 := (hz.block _ (lt_of hA)).trans hA
  have hB2 := (hz.block _ (lt_of hB)).trans hB
  clear hA hB hz
  generalize hU : (w.alloc (.cells #[.int .i64 1, .int .i64 y, .int .i64 m, .int .i64 1, .int .i64 0, .int .i64 0, .bool false, .int .i64 0] 24)) = U at *
  clear hU
  have hkp : ∀ W, Below U.heap.size U W → (W.cell? ⟨w.heap.size, 0, none⟩ = some (.int .i64 1) ∧ W.cell? ⟨w.heap.size, 1, none⟩ = some (.int .i64 y) ∧ W.cell? ⟨w.heap.size, 2, none⟩ = some (.int .i64 m) ∧ W.cell? ⟨w.heap.size, 3, none⟩ = some (.int .i64 1) ∧ W.cell? ⟨w.heap.size, 4, none⟩ = some (.int .i64 0) ∧ W.cell? ⟨w.heap.size, 5, none⟩ = some (.int .i64 0) ∧ W.cell? ⟨w.heap.size, 6, none⟩ = some (.bool false) ∧ W.cell? ⟨w.heap.size, 7, none⟩ = some (.int .i64 0) ∧ W.cell? ⟨A, 0, none⟩ = some (.int .i64 a.o) ∧ W.cell? ⟨A, 1, none⟩ = some (.int .i64 a.s) ∧ W.cell? ⟨A, 2, none⟩ = some (.int .i64 a.n) ∧ W.cell? ⟨B, 0, none⟩ = some (.int .i64 b.o) ∧ W.cell? ⟨B, 1, none⟩ = some (.int .i64 b.s) ∧ W.cell? ⟨B, 2, none⟩ = some (.int .i64 b.n)) := fun W hW => by
    obtain ⟨⟨g0, g1, g2, g3, g4, g5, g6, g7⟩, _⟩ := blk8 ((hW.block _ (lt_of x1)).trans x1)
    obtain ⟨h0, h1, h2⟩ := blk3 ((hW.block _ (lt_of hA2)).trans hA2)
    obtain ⟨j0, j1, j2⟩ := blk3 ((hW.block _ (lt_of hB2)).trans hB2)
    exact ⟨g0, g1, g2, g3, g4, g5, g6, g7, h0, h1, h2, j0, j1, j2⟩
  obtain ⟨g0, g1, g2, g3, g4, g5, g6, g7, h0, h1, h2, j0, j1, j2⟩ := hkp U.drew (below_drewN 1)
  have HB : Hid (Below U.heap.size U U.drew) := below_drewN 1
  have HKP : Hid _ := hkp
  clear hkp x1 hA2 hB2
  go_region_held3 (fun W => W.cell? ⟨w.heap.size, 0, none⟩ = some (.int .i64 1) ∧ W.cell? ⟨w.heap.size, 1, none⟩ = some (.int .i64 y) ∧ W.cell? ⟨w.heap.size, 2, none⟩ = some (.int .i64 m) ∧ W.cell? ⟨w.heap.size, 3, none⟩ = some (.int .i64 1) ∧ W.cell? ⟨w.heap.size, 4, none⟩ = some (.int .i64 0) ∧ W.cell? ⟨w.heap.size, 5, none⟩ = some (.int .i64 0) ∧ W.cell? ⟨w.heap.size, 6, none⟩ = some (.bool false) ∧ W.cell? ⟨w.heap.size, 7, none⟩ = some (.int .i64 0) ∧ W.cell? ⟨A, 0, none⟩ = some (.int .i64 a.o) ∧ W.cell? ⟨A, 1, none⟩ = some (.int .i64 a.s) ∧ W.cell? ⟨A, 2, none⟩ = some (.int .i64 a.n) ∧ W.cell? ⟨B, 0, none⟩ = some (.int .i64 b.o) ∧ W.cell? ⟨B, 1, none⟩ = some (.int .i64 b.s) ∧ W.cell? ⟨B, 2, none⟩ = some (.int .i64 b.n)) (first | exact ⟨g0, g1, g2, g3, g4, g5, g6, g7, h0, h1, h2, j0, j1, j2⟩ | fail) (first
    | (go_at_call 18; (with_reducible refine Calls.mono (HC.out.1 _) ?_); rintro e w1 ⟨rfl, hb1⟩; have hbb := HB.out.trans (hb1.mono HB.out.size); clear HB g0 g1 g2 g3 g4 g5 g6 g7 h0 h1 h2 j0 j1 j2; obtain ⟨g0, g1, g2, g3, g4, g5, g6, g7, h0, h1, h2, j0, j1, j2⟩ := HKP.out _ hbb; have HB : Hid _ := hbb; clear hbb hb1)
    | (go_at_call 18; (with_reducible refine Calls.mono (HC.out.2.1 _) ?_); rintro e w1 ⟨rfl, hb1⟩; have hbb := HB.out.trans (hb1.mono HB.out.size); clear HB g0 g1 g2 g3 g4 g5 g6 g7 h0 h1 h2 j0 j1 j2; obtain ⟨g0, g1, g2, g3, g4, g5, g6, g7, h0, h1, h2, j0, j1, j2⟩ := HKP.out _ hbb; have HB : Hid _ := hbb; clear hbb hb1)
    | (go_at_call 14; (with_reducible refine Calls.mono (HC.out.2.2.1 _) ?_); rintro e w1 ⟨rfl, hb1⟩; have hbb := HB.out.trans (hb1.mono HB.out.size); clear HB g0 g1 g2 g3 g4 g5 g6 g7 h0 h1 h2 j0 j1 j2; obtain ⟨g0, g1, g2, g3, g4, g5, g6, g7, h0, h1, h2, j0, j1, j2⟩ := HKP.out _ hbb; have HB : Hid _ := hbb; clear hbb hb1)
    | fail)
  all_goals
    go_wp2_with fail
    go_ret
    exact ⟨rfl, HC.out.2.2.2.trans (HB.out.mono HC.out.2.2.2.size)⟩
set_option maxHeartbeats 1000000 in
theorem cmpSpan_p (a b : Sp) (w : World) (ha : SpT a) (hb : SpT b) : Calls Try.prog 16 #[spV a, spV b] w fun e w' => e = .returned (.int .i64 (cmpP a b)) ∧ Below w.heap.size w w' := by
  obtain ⟨x1, x2, hb0⟩ := box2 w (.cells (spC a) 32) (.cells (spC b) 32)
  have q1 := fun (W : World) (hW : Below ((w.alloc (.cells (spC a) 32)).alloc (.cells (spC b) 32)).heap.size ((w.alloc (.cells (spC a) 32)).alloc (.cells (spC b) 32)) W) => from_c 1696 9 a b w.heap.size (w.heap.size + 1) W ((hW.block _ (lt_of x1)).trans x1) ((hW.block _ (lt_of x2)).trans x2) (by omega) (by omega) (by omega) (by omega) (by omega) ha hb
  have q2 := fun (W : World) (hW : Below ((w.alloc (.cells (spC a) 32)).alloc (.cells (spC b) 32)).heap.size ((w.alloc (.cells (spC a) 32)).alloc (.cells (spC b) 32)) W) => from_c 1697 2 a b w.heap.size (w.heap.size + 1) W ((hW.block _ (lt_of x1)).trans x1) ((hW.block _ (lt_of x2)).trans x2) (by omega) (by omega) (by omega) (by omega) (by omega) ha hb
  have q3 := fun (W : World) (hW : Below ((w.alloc (.cells (spC a) 32)).alloc (.cells (spC b) 32)).heap.size ((w.alloc (.cells (spC a) 32)).alloc (.cells (spC b) 32)) W) => from_c 1903 3 a b w.heap.size (w.heap.size + 1) W ((hW.block _ (lt_of x1)).trans x1) ((hW.block _ (lt_of x2)).trans x2) (by omega) (by omega) (by omega) (by omega) (by omega) ha hb
  have q4 := fun (W : World) (hW : Below ((w.alloc (.cells (spC a) 32)).alloc (.cells (spC b) 32)).heap.size ((w.alloc (.cells (spC a) 32)).alloc (.cells (spC b) 32)) W) => from_c 1903 7 a b w.heap.size (w.heap.size + 1) W ((hW.block _ (lt_of x1)).trans x1) ((hW.block _ (lt_of x2)).trans x2) (by omega) (by omega) (by omega) (by omega) (by omega) ha hb
  have hE : cmpP a b = if cmp4 1696 9 a b = cmp4 1903 7 a b ∧ cmp4 1697 2 a b = cmp4 1903 7 a b ∧ cmp4 1903 3 a b = cmp4 1903 7 a b then cmp4 1903 7 a b else 2 := rfl
  rw [hE]
  clear hE
  generalize cmp4 1696 9 a b = R1 at *
  generalize cmp4 1697 2 a b = R2 at *
  generalize cmp4 1903 3 a b = R3 at *
  generalize cmp4 1903 7 a b = R4 at *
  obtain ⟨R, hR⟩ : ∃ R, (if R1 = R4 ∧ R2 = R4 ∧ R3 = R4 then R4 else 2) = R := ⟨_, rfl⟩
  rw [hR]
  have HR : Hid _ := hR
  clear hR
  have HC : Hid _ := And.intro q1 (And.intro q2 (And.intro q3 (And.intro q4 hb0)))
  clear q1 q2 q3 q4 ha hb x1 x2 hb0
  have HB : Hid (Below ((w.alloc (.cells (spC a) 32)).alloc (.cells (spC b) 32)).heap.size ((w.alloc (.cells (spC a) 32)).alloc (.cells (spC b) 32)) ((w.alloc (.cells (spC a) 32)).alloc (.cells (spC b) 32))) := Below.refl _ _
  go_enter Try.func16, Try.ntmps16
  go_wp2_with fail
  refine Calls.mono (HC.out.1 _ HB.out) ?_
  rintro e w1 ⟨rfl, hb1⟩
  have hbb := HB.out.trans (hb1.mono HB.out.size)
  clear HB
  have HB : Hid _ := hbb
  clear hbb hb1
  cases hq1 : (R2 != R1)
  · cases hq2 : (R3 != R1)
    · cases hq3 : (R4 != R1)
      · go_wp2_with fail
        refine Calls.mono (HC.out.2.1 _ HB.out) ?_
        rintro e w1 ⟨rfl, hb1⟩
        have hbb := HB.out.trans (hb1.mono HB.out.size)
        clear HB
        have HB : Hid _ := hbb
        clear hbb hb1
        go_wp2_with fail
        refine Calls.mono (HC.out.2.2.1 _ HB.out) ?_
        rintro e w1 ⟨rfl, hb1⟩
        have hbb := HB.out.trans (hb1.mono HB.out.size)
        clear HB
        have HB : Hid _ := hbb
        clear hbb hb1
        go_wp2_with fail
        refine Calls.mono (HC.out.2.2.2.1 _ HB.out) ?_
        rintro e w1 ⟨rfl, hb1⟩
        have hbb := HB.out.trans (hb1.mono HB.out.size)
        clear HB
        have HB : Hid _ := hbb
        clear hbb hb1
        go_wp2_with fail
        go_ret
        exact ⟨ret_int (by simp at hq1 hq2 hq3; rw [← HR.out, if_pos (by omega)]; omega), HC.out.2.2.2.2.trans (HB.out.mono HC.out.2.2.2.2.size)⟩
      · go_wp2_with fail
        refine Calls.mono (HC.out.2.1 _ HB.out) ?_
        rintro e w1 ⟨rfl, hb1⟩
        have hbb := HB.out.trans (hb1.mono HB.out.size)
        clear HB
        have HB : Hid _ := hbb
        clear hbb hb1
        go_wp2_with fail
        refine Calls.mono (HC.out.2.2.1 _ HB.out) ?_
        rintro e w1 ⟨rfl, hb1⟩
        have hbb := HB.out.trans (hb1.mono HB.out.size)
        clear HB
        have HB : Hid _ := hbb
        clear hbb hb1
        go_wp2_with fail
        refine Calls.mono (HC.out.2.2.2.1 _ HB.out) ?_
        rintro e w1 ⟨rfl, hb1⟩
        have hbb := HB.out.trans (hb1.mono HB.out.size)
        clear HB
        have HB : Hid _ := hbb
        clear hbb hb1
        go_wp2_with fail
        go_ret
        exact ⟨ret_int (by simp at hq1 hq2 hq3; rw [← HR.out, if_neg (by omega)]), HC.out.2.2.2.2.trans (HB.out.mono HC.out.2.2.2.2.size)⟩
    · go_wp2_with fail
      refine Calls.mono (HC.out.2.1 _ HB.out) ?_
      rintro e w1 ⟨rfl, hb1⟩
      have hbb := HB.out.trans (hb1.mono HB.out.size)
      clear HB
      have HB : Hid _ := hbb
      clear hbb hb1
      go_wp2_with fail
      refine Calls.mono (HC.out.2.2.1 _ HB.out) ?_
      rintro e w1 ⟨rfl, hb1⟩
      have hbb := HB.out.trans (hb1.mono HB.out.size)
      clear HB
      have HB : Hid _ := hbb
      clear hbb hb1
      go_wp2_with fail
      go_ret
      exact ⟨ret_int (by simp at hq1 hq2; rw [← HR.out, if_neg (by omega)]), HC.out.2.2.2.2.trans (HB.out.mono HC.out.2.2.2.2.size)⟩
  · go_wp2_with fail
    refine Calls.mono (HC.out.2.1 _ HB.out) ?_
    rintro e w1 ⟨rfl, hb1⟩
    have hbb := HB.out.trans (hb1.mono HB.out.size)
    clear HB
    have HB : Hid _ := hbb
    clear hbb hb1
    go_wp2_with fail
    go_ret
    exact ⟨ret_int (by simp at hq1; rw [← HR.out, if_neg (by omega)]), HC.out.2.2.2.2.trans (HB.out.mono HC.out.2.2.2.2.size)⟩
end Go.Proofs.Ytijcbgjlofcdfaa
