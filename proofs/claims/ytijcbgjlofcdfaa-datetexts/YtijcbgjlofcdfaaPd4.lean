/- The program's put, Cmp. -/
import Derived.Test.YtijcbgjlofcdfaaJ18
namespace Go.Proofs.Ytijcbgjlofcdfaa
open Go.RowKit
set_option linter.unusedVariables false

def ptZ (a : Mo) (z : Int) : Mo := if a.hz then a else { a with z := z }
set_option maxHeartbeats 400000 in
theorem put_p (a : Mo) (z : Int) (w : World) : Calls Try.prog 42 #[moV a, .int .i64 z] w fun e w' => e = .returned (moV (ptZ a z)) ∧ Below w.heap.size w w' := by
  obtain ⟨k, y, m, d, s, n, hz, z0⟩ := a
  cases hz
  · have e1 : ptZ ⟨k, y, m, d, s, n, false, z0⟩ z = ⟨k, y, m, d, s, n, false, z⟩ := rfl
    rw [e1]
    go_enter Try.func42, Try.ntmps42
    go_wp2_with fail
    exact bodyPost_ret (v := moV ⟨k, y, m, d, s, n, false, z⟩) (by simp [results, Try.results42, go_sem]) rfl ⟨rfl, ((Below.refl _ _).alloc (Nat.le_refl _) _).alloc (by simp) _⟩
  · have e1 : ptZ ⟨k, y, m, d, s, n, true, z0⟩ z = ⟨k, y, m, d, s, n, true, z0⟩ := rfl
    rw [e1]
    go_enter Try.func42, Try.ntmps42
    go_wp2_with fail
    exact bodyPost_ret (v := moV ⟨k, y, m, d, s, n, true, z0⟩) (by simp [results, Try.results42, go_sem]) rfl ⟨rfl, ((Below.refl _ _).alloc (Nat.le_refl _) _).alloc (by simp) _⟩
theorem ptZ_L {a : Mo} (h : MoL a) {z : Int} (h0 : -1000000 < z) (h1 : z < 1000000) : MoL (ptZ a z) := by
  obtain ⟨k, y, m, d, s, n, hz, z0⟩ := a
  obtain ⟨⟨y0, y1, m0, m1, d0, d1, s0, s1, n0, n1⟩, n2, n3, z2, z3⟩ := h
  cases hz
  · exact ⟨⟨y0, y1, m0, m1, d0, d1, s0, s1, n0, n1⟩, n2, n3, h0, h1⟩
  · exact ⟨⟨y0, y1, m0, m1, d0, d1, s0, s1, n0, n1⟩, n2, n3, z2, z3⟩
/-- The order by two zones, of the one that tells none. -/
def byZ (a b : Mo) (z : Int) : Int := ordS (linS (ptZ a z) (ptZ a z).z) (ptZ a z).n (linS (ptZ b z) (ptZ b z).z) (ptZ b z).n
theorem ord_mix (P p Q q : Int) : (if ordS P p (Q - 60 * 840) q = ordS P p (Q - 60 * (-840)) q ∧ ordS P p (Q - 60 * 840) q ≠ 0 then ordS P p (Q - 60 * 840) q else 2) = if ordS P p (Q - 60 * 840) q ≠ ordS P p (Q - 60 * (-840)) q then 2 else ordS P p (Q - 60 * 840) q := by
  have h : ¬ (ordS P p (Q - 60 * 840) q = 0 ∧ ordS P p (Q - 60 * (-840)) q = 0) := by
    unfold ordS
    split
    · simp
    · split
      · split
        · simp
        · split <;> omega
      · simp
  generalize ordS P p (Q - 60 * 840) q = x at *
  generalize ordS P p (Q - 60 * (-840)) q = y at *
  split <;> split <;> omega
theorem cmp_byZ {a b : Mo} (hk : a.k = b.k) (hz : a.hz ≠ b.hz) : cmpM a b = if byZ a b 840 ≠ byZ a b (-840) then 2 else byZ a b 840 := by
  unfold cmpM
  rw [if_neg (by simpa using hk), if_neg hz]
  obtain ⟨ka, ya, ma, da, sa, na, hza, za⟩ := a
  obtain ⟨kb, yb, mb, db, sb, nb, hzb, zb⟩ := b
  dsimp only at *
  unfold byZ ptZ mixS linS
  cases hza <;> cases hzb
  · exact absurd rfl hz
  · simp only [Bool.false_eq_true, if_false, if_true]
    have h := ord_mix (86400 * daysS yb mb db + sb - 60 * zb) nb (86400 * daysS ya ma da + sa) na
    rw [ord_swap (86400 * daysS yb mb db + sb - 60 * zb) nb (86400 * daysS ya ma da + sa - 60 * 840) na, ord_swap (86400 * daysS yb mb db + sb - 60 * zb) nb (86400 * daysS ya ma da + sa - 60 * (-840)) na]
    rw [h]
    have h1 := ord_in (86400 * daysS yb mb db + sb - 60 * zb) nb (86400 * daysS ya ma da + sa - 60 * 840) na
    generalize ordS (86400 * daysS yb mb db + sb - 60 * zb) nb (86400 * daysS ya ma da + sa - 60 * 840) na = x at *
    generalize ordS (86400 * daysS yb mb db + sb - 60 * zb) nb (86400 * daysS ya ma da + sa - 60 * (-840)) na = y at *
    by_cases c : x = y
    · subst c
      simp
      omega
    · rw [if_pos c, if_pos rfl, if_pos (by omega)]
  · simp only [Bool.false_eq_true, if_false, if_true]
    exact ord_mix _ _ _ _
  · exact absurd rfl hz
set_option maxHeartbeats 1000000 in
theorem cmp_p (a b : Mo) (w : World) (ha : MoL a) (hb : MoL b) : Calls Try.prog 14 #[moV a, moV b] w fun e w' => e = .returned (.int .i64 (cmpM a b)) ∧ Below w.heap.size w w' := by
  obtain ⟨x1, x2, hb0⟩ := box2 w (.cells (moC a) 24) (.cells (moC b) 24)
  have q0 := fun W : World => byLines_p a b W ha hb
  have q1 := fun W : World => put_p a 840 W
  have q2 := fun W : World => put_p b 840 W
  have q3 := fun W : World => byLines_p (ptZ a 840) (ptZ b 840) W (ptZ_L ha (by omega) (by omega)) (ptZ_L hb (by omega) (by omega))
  have q4 := fun W : World => put_p a (-840) W
  have q5 := fun W : World => put_p b (-840) W
  have q6 := fun W : World => byLines_p (ptZ a (-840)) (ptZ b (-840)) W (ptZ_L ha (by omega) (by omega)) (ptZ_L hb (by omega) (by omega))
  have hE := cmp_byZ (a := a) (b := b)
  unfold byZ at hE
  have hF : a.k = b.k → a.hz = b.hz → cmpM a b = ordS (linS a a.z) a.n (linS b b.z) b.n := cmp_eq
  have hG : ¬ a.k = b.k → cmpM a b = 2 := fun h => by unfold cmpM; rw [if_pos h]
  generalize ordS (linS a a.z) a.n (linS b b.z) b.n = R0 at *
  generalize ordS (linS (ptZ a 840) (ptZ a 840).z) (ptZ a 840).n (linS (ptZ b 840) (ptZ b 840).z) (ptZ b 840).n = R1 at *
  generalize ordS (linS (ptZ a (-840)) (ptZ a (-840)).z) (ptZ a (-840)).n (linS (ptZ b (-840)) (ptZ b (-840)).z) (ptZ b (-840)).n = R2 at *
  have HC : Hid _ := And.intro q0 (And.intro q1 (And.intro q2 (And.intro q3 (And.intro q4 (And.intro q5 (And.intro q6 hb0))))))
  clear q0 q1 q2 q3 q4 q5 q6 hb0 ha hb
  generalize ptZ a 840 = a1 at *
  generalize ptZ b 840 = b1 at *
  generalize ptZ a (-840) = a2 at *
  generalize ptZ b (-840) = b2 at *
  generalize cmpM a b = R at *
  have HE : Hid _ := And.intro hE (And.intro hF hG)
  clear hE hF hG
  generalize hU : ((w.alloc (.cells (moC a) 24)).alloc (.cells (moC b) 24)) = U at *
  have hkp : ∀ W, Below U.heap.size U W → (W.cell? ⟨w.heap.size, 0, none⟩ = some (.int .i64 a.k) ∧ W.cell? ⟨w.heap.size, 1, none⟩ = some (.int .i64 a.y) ∧ W.cell? ⟨w.heap.size, 2, none⟩ = some (.int .i64 a.m) ∧ W.cell? ⟨w.heap.size, 3, none⟩ = some (.int .i64 a.d) ∧ W.cell? ⟨w.heap.size, 4, none⟩ = some (.int .i64 a.s) ∧ W.cell? ⟨w.heap.size, 5, none⟩ = some (.int .i64 a.n) ∧ W.cell? ⟨w.heap.size, 6, none⟩ = some (.bool a.hz) ∧ W.cell? ⟨w.heap.size, 7, none⟩ = some (.int .i64 a.z) ∧ W.cell? ⟨w.heap.size + 1, 0, none⟩ = some (.int .i64 b.k) ∧ W.cell? ⟨w.heap.size + 1, 1, none⟩ = some (.int .i64 b.y) ∧ W.cell? ⟨w.heap.size + 1, 2, none⟩ = some (.int .i64 b.m) ∧ W.cell? ⟨w.heap.size + 1, 3, none⟩ = some (.int .i64 b.d) ∧ W.cell? ⟨w.heap.size + 1, 4, none⟩ = some (.int .i64 b.s) ∧ W.cell? ⟨w.heap.size + 1, 5, none⟩ = some (.int .i64 b.n) ∧ W.cell? ⟨w.heap.size + 1, 6, none⟩ = some (.bool b.hz) ∧ W.cell? ⟨w.heap.size + 1, 7, none⟩ = some (.int .i64 b.z)) := fun W hW => by
    obtain ⟨⟨g0, g1, g2, g3, g4, g5, g6, g7⟩, _⟩ := blk8 ((hW.block _ (lt_of x1)).trans x1)
    obtain ⟨⟨h0, h1, h2, h3, h4, h5, h6, h7⟩, _⟩ := blk8 ((hW.block _ (lt_of x2)).trans x2)
    exact ⟨g0, g1, g2, g3, g4, g5, g6, g7, h0, h1, h2, h3, h4, h5, h6, h7⟩
  have HKP : Hid _ := hkp
  clear hkp x1 x2
  have HU : Hid _ := hU
  clear hU
  by_cases hk : a.k = b.k
  · by_cases hz : a.hz = b.hz
    · obtain rfl := HE.out.2.1 hk hz
      have hzz : (a.hz == b.hz) = true := by simpa using hz
      have hkk : (a.k == b.k) = true := by simpa using hk
      have hkn : (a.k != b.k) = false := by simpa using hk
      clear hk hz HE
      go_enter Try.func14, Try.ntmps14
      go_wp2_with (first | (go_at_call 41; (with_reducible refine Calls.mono (HC.out.1 _) ?_); rintro e w1 ⟨rfl, hb1⟩))
      go_ret
      rw [HU.out] at hb1
      exact ⟨rfl, HC.out.2.2.2.2.2.2.2.trans (hb1.mono HC.out.2.2.2.2.2.2.2.size)⟩
    · have hR := HE.out.1 hk hz
      have HR : Hid _ := hR
      have hzz : (a.hz == b.hz) = false := by simpa using hz
      have hkk : (a.k == b.k) = true := by simpa using hk
      have hkn : (a.k != b.k) = false := by simpa using hk
      clear hR HE hk hz
      go_enter Try.func14, Try.ntmps14
      go_wp2_with fail
      have hU := HU.out
      rw [hU]
      clear hU
      obtain ⟨g0, g1, g2, g3, g4, g5, g6, g7, h0, h1, h2, h3, h4, h5, h6, h7⟩ := HKP.out U.drew (below_drewN 1)
      have HB : Hid (Below U.heap.size U U.drew) := below_drewN 1
      go_region_held3 (fun W => W.cell? ⟨w.heap.size, 0, none⟩ = some (.int .i64 a.k) ∧ W.cell? ⟨w.heap.size, 1, none⟩ = some (.int .i64 a.y) ∧ W.cell? ⟨w.heap.size, 2, none⟩ = some (.int .i64 a.m) ∧ W.cell? ⟨w.heap.size, 3, none⟩ = some (.int .i64 a.d) ∧ W.cell? ⟨w.heap.size, 4, none⟩ = some (.int .i64 a.s) ∧ W.cell? ⟨w.heap.size, 5, none⟩ = some (.int .i64 a.n) ∧ W.cell? ⟨w.heap.size, 6, none⟩ = some (.bool a.hz) ∧ W.cell? ⟨w.heap.size, 7, none⟩ = some (.int .i64 a.z) ∧ W.cell? ⟨w.heap.size + 1, 0, none⟩ = some (.int .i64 b.k) ∧ W.cell? ⟨w.heap.size + 1, 1, none⟩ = some (.int .i64 b.y) ∧ W.cell? ⟨w.heap.size + 1, 2, none⟩ = some (.int .i64 b.m) ∧ W.cell? ⟨w.heap.size + 1, 3, none⟩ = some (.int .i64 b.d) ∧ W.cell? ⟨w.heap.size + 1, 4, none⟩ = some (.int .i64 b.s) ∧ W.cell? ⟨w.heap.size + 1, 5, none⟩ = some (.int .i64 b.n) ∧ W.cell? ⟨w.heap.size + 1, 6, none⟩ = some (.bool b.hz) ∧ W.cell? ⟨w.heap.size + 1, 7, none⟩ = some (.int .i64 b.z)) (first | exact ⟨g0, g1, g2, g3, g4, g5, g6, g7, h0, h1, h2, h3, h4, h5, h6, h7⟩ | fail) (first
      | (go_at_call 42; (with_reducible refine Calls.mono (HC.out.2.1 _) ?_); rintro e w1 ⟨rfl, hb1⟩; have hbb := HB.out.trans (hb1.mono HB.out.size); clear HB g0 g1 g2 g3 g4 g5 g6 g7 h0 h1 h2 h3 h4 h5 h6 h7; obtain ⟨g0, g1, g2, g3, g4, g5, g6, g7, h0, h1, h2, h3, h4, h5, h6, h7⟩ := HKP.out _ hbb; have HB : Hid _ := hbb; clear hbb hb1)
      | (go_at_call 42; (with_reducible refine Calls.mono (HC.out.2.2.1 _) ?_); rintro e w1 ⟨rfl, hb1⟩; have hbb := HB.out.trans (hb1.mono HB.out.size); clear HB g0 g1 g2 g3 g4 g5 g6 g7 h0 h1 h2 h3 h4 h5 h6 h7; obtain ⟨g0, g1, g2, g3, g4, g5, g6, g7, h0, h1, h2, h3, h4, h5, h6, h7⟩ := HKP.out _ hbb; have HB : Hid _ := hbb; clear hbb hb1)
      | (go_at_call 41; (with_reducible refine Calls.mono (HC.out.2.2.2.1 _) ?_); rintro e w1 ⟨rfl, hb1⟩; have hbb := HB.out.trans (hb1.mono HB.out.size); clear HB g0 g1 g2 g3 g4 g5 g6 g7 h0 h1 h2 h3 h4 h5 h6 h7; obtain ⟨g0, g1, g2, g3, g4, g5, g6, g7, h0, h1, h2, h3, h4, h5, h6, h7⟩ := HKP.out _ hbb; have HB : Hid _ := hbb; clear hbb hb1)
      | fail)
      go_wp2_with fail
      have HB2 : Hid (Below U.heap.size U w1.drew) := bdrewN HB.out 1
      clear HB g0 g1 g2 g3 g4 g5 g6 g7 h0 h1 h2 h3 h4 h5 h6 h7
      obtain ⟨g0, g1, g2, g3, g4, g5, g6, g7, h0, h1, h2, h3, h4, h5, h6, h7⟩ := HKP.out w1.drew HB2.out
      have HB : Hid _ := HB2.out
      go_region_held3 (fun W => W.cell? ⟨w.heap.size, 0, none⟩ = some (.int .i64 a.k) ∧ W.cell? ⟨w.heap.size, 1, none⟩ = some (.int .i64 a.y) ∧ W.cell? ⟨w.heap.size, 2, none⟩ = some (.int .i64 a.m) ∧ W.cell? ⟨w.heap.size, 3, none⟩ = some (.int .i64 a.d) ∧ W.cell? ⟨w.heap.size, 4, none⟩ = some (.int .i64 a.s) ∧ W.cell? ⟨w.heap.size, 5, none⟩ = some (.int .i64 a.n) ∧ W.cell? ⟨w.heap.size, 6, none⟩ = some (.bool a.hz) ∧ W.cell? ⟨w.heap.size, 7, none⟩ = some (.int .i64 a.z) ∧ W.cell? ⟨w.heap.size + 1, 0, none⟩ = some (.int .i64 b.k) ∧ W.cell? ⟨w.heap.size + 1, 1, none⟩ = some (.int .i64 b.y) ∧ W.cell? ⟨w.heap.size + 1, 2, none⟩ = some (.int .i64 b.m) ∧ W.cell? ⟨w.heap.size + 1, 3, none⟩ = some (.int .i64 b.d) ∧ W.cell? ⟨w.heap.size + 1, 4, none⟩ = some (.int .i64 b.s) ∧ W.cell? ⟨w.heap.size + 1, 5, none⟩ = some (.int .i64 b.n) ∧ W.cell? ⟨w.heap.size + 1, 6, none⟩ = some (.bool b.hz) ∧ W.cell? ⟨w.heap.size + 1, 7, none⟩ = some (.int .i64 b.z)) (first | exact ⟨g0, g1, g2, g3, g4, g5, g6, g7, h0, h1, h2, h3, h4, h5, h6, h7⟩ | fail) (first
      | (go_at_call 42; (with_reducible refine Calls.mono (HC.out.2.2.2.2.1 _) ?_); rintro e w1 ⟨rfl, hb1⟩; have hbb := HB.out.trans (hb1.mono HB.out.size); clear HB g0 g1 g2 g3 g4 g5 g6 g7 h0 h1 h2 h3 h4 h5 h6 h7; obtain ⟨g0, g1, g2, g3, g4, g5, g6, g7, h0, h1, h2, h3, h4, h5, h6, h7⟩ := HKP.out _ hbb; have HB : Hid _ := hbb; clear hbb hb1)
      | (go_at_call 42; (with_reducible refine Calls.mono (HC.out.2.2.2.2.2.1 _) ?_); rintro e w1 ⟨rfl, hb1⟩; have hbb := HB.out.trans (hb1.mono HB.out.size); clear HB g0 g1 g2 g3 g4 g5 g6 g7 h0 h1 h2 h3 h4 h5 h6 h7; obtain ⟨g0, g1, g2, g3, g4, g5, g6, g7, h0, h1, h2, h3, h4, h5, h6, h7⟩ := HKP.out _ hbb; have HB : Hid _ := hbb; clear hbb hb1)
      | (go_at_call 41; (with_reducible refine Calls.mono (HC.out.2.2.2.2.2.2.1 _) ?_); rintro e w1 ⟨rfl, hb1⟩; have hbb := HB.out.trans (hb1.mono HB.out.size); clear HB g0 g1 g2 g3 g4 g5 g6 g7 h0 h1 h2 h3 h4 h5 h6 h7; obtain ⟨g0, g1, g2, g3, g4, g5, g6, g7, h0, h1, h2, h3, h4, h5, h6, h7⟩ := HKP.out _ hbb; have HB : Hid _ := hbb; clear hbb hb1)
      | fail)
      cases hq : (R1 != R2)
      · go_wp2_with fail
        go_ret
        exact ⟨ret_int (by rw [HR.out, if_neg (by simpa using hq)]), HC.out.2.2.2.2.2.2.2.trans (HB.out.mono HC.out.2.2.2.2.2.2.2.size)⟩
      · go_wp2_with fail
        go_ret
        exact ⟨ret_int (by rw [HR.out, if_pos (by simpa using hq)]), HC.out.2.2.2.2.2.2.2.trans (HB.out.mono HC.out.2.2.2.2.2.2.2.size)⟩
  · obtain rfl := HE.out.2.2 hk
    have hkk : (a.k == b.k) = false := by simpa using hk
    have hkn : (a.k != b.k) = true := by simpa using hk
    clear hk HE
    go_enter Try.func14, Try.ntmps14
    go_wp2_with fail
    go_ret
    refine ⟨rfl, ?_⟩
    rw [HU.out]
    exact HC.out.2.2.2.2.2.2.2
end Go.Proofs.Ytijcbgjlofcdfaa
