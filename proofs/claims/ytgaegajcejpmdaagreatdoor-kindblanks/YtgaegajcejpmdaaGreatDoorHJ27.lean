/- Joined: HDtPd4, HDtPd5. -/
import Derived.Test.YtgaegajcejpmdaaGreatDoorHJ26
namespace Go.Proofs.YtgaegajcejpmdaaGreatDoor.Dt
open Go.RowKit
set_option linter.unusedVariables false

def ptZ (a : Mo) (z : Int) : Mo := if a.hz then a else { a with z := z }
set_option maxHeartbeats 400000 in
theorem put_p (a : Mo) (z : Int) (w : World) : Calls Tryz.prog 89 #[moV a, .int .i64 z] w fun e w' => e = .returned (moV (ptZ a z)) ∧ Below w.heap.size w w' := by
  obtain ⟨k, y, m, d, s, n, hz, z0⟩ := a
  cases hz
  · have e1 : ptZ ⟨k, y, m, d, s, n, false, z0⟩ z = ⟨k, y, m, d, s, n, false, z⟩ := rfl
    rw [e1]
    go_enter Tryz.func89, Tryz.ntmps89
    go_wp2_with fail
    exact bodyPost_ret (v := moV ⟨k, y, m, d, s, n, false, z⟩) (by simp [results, Tryz.results89, go_sem]) rfl ⟨rfl, ((Below.refl _ _).alloc (Nat.le_refl _) _).alloc (by simp) _⟩
  · have e1 : ptZ ⟨k, y, m, d, s, n, true, z0⟩ z = ⟨k, y, m, d, s, n, true, z0⟩ := rfl
    rw [e1]
    go_enter Tryz.func89, Tryz.ntmps89
    go_wp2_with fail
    exact bodyPost_ret (v := moV ⟨k, y, m, d, s, n, true, z0⟩) (by simp [results, Tryz.results89, go_sem]) rfl ⟨rfl, ((Below.refl _ _).alloc (Nat.le_refl _) _).alloc (by simp) _⟩
theorem ptZ_L {a : Mo} (h : MoL a) {z : Int} (h0 : -1000000 < z) (h1 : z < 1000000) : MoL (ptZ a z) := by
  obtain ⟨k, y, m, d, s, n, hz, z0⟩ := a
  obtain ⟨⟨y0, y1, m0, m1, d0, d1, s0, s1, n0, n1⟩, n2, n3, z2, z3⟩ := h
  cases hz
  · exact ⟨⟨y0, y1, m0, m1, d0, d1, s0, s1, n0, n1⟩, n2, n3, h0, h1⟩
  · exact ⟨⟨y0, y1, m0, m1, d0, d1, s0, s1, n0, n1⟩, n2, n3, z2, z3⟩
/-- The order by two zones, of the one that tells none. -/
def byZ (a b : Mo) (z : Int) : Int := ordS (linS (ptZ a z) (ptZ a z).z) (ptZ a z).n (linS (ptZ b z) (ptZ b z).z) (ptZ b z).n
theorem ord_mix (P p Q q : Int) : (if ordS P p (Q - 60 * 840) q = ordS P p (Q - 60 * (-840)) q ∧ ordS P p (Q - 60 * 840) q ≠ 0 then ordS P p (Q - 60 * 840) q else 2) = if ordS P p (Q - 60 * 840) q ≠ ordS P p (Q - 60 * (-840)) q then 2 else ordS P p (Q - 60 * 840) q := by
  have h : ¬ (ordS P p (Q - 60 * 840) q = 0 ∧ ordS P p (Q - 60 * (-840)) q = 0) := by
    unfold ordS
    split
    · simp
    · split
      · split
        · simp
        · split <;> omega
      · simp
  generalize ordS P p (Q - 60 * 840) q = x at *
  generalize ordS P p (Q - 60 * (-840)) q = y at *
  split <;> split <;> omega
theorem cmp_byZ {a b : Mo} (hk : a.k = b.k) (hz : a.hz ≠ b.hz) : cmpM a b = if byZ a b 840 ≠ byZ a b (-840) then 2 else byZ a b 840 := by
  unfold cmpM
  rw [if_neg (by simpa using hk), if_neg hz]
  obtain ⟨ka, ya, ma, da, sa, na, hza, za⟩ := a
  obtain ⟨kb, yb, mb, db, sb, nb, hzb, zb⟩ := b
  dsimp only at *
  unfold byZ ptZ mixS linS
  cases hza <;> cases hzb
  · exact absurd rfl hz
  · simp only [Bool.false_eq_true, if_false, if_true]
    have h := ord_mix (86400 * daysS yb mb db + sb - 60 * zb) nb (86400 * daysS ya ma da + sa) na
    rw [ord_swap (86400 * daysS yb mb db + sb - 60 * zb) nb (86400 * daysS ya ma da + sa - 60 * 840) na, ord_swap (86400 * daysS yb mb db + sb - 60 * zb) nb (86400 * daysS ya ma da + sa - 60 * (-840)) na]
    rw [h]
    have h1 := ord_in (86400 * daysS yb mb db + sb - 60 * zb) nb (86400 * daysS ya ma da + sa - 60 * 840) na
    generalize ordS (86400 * daysS yb mb db + sb - 60 * zb) nb (86400 * daysS ya ma da + sa - 60 * 840) na = x at *
    generalize ordS (86400 * daysS yb mb db + sb - 60 * zb) nb (86400 * daysS ya ma da + sa - 60 * (-840)) na = y at *
    by_cases c : x = y
    · subst c
      simp
      omega
    · rw [if_pos c, if_pos rfl, if_pos (by omega)]
  · simp only [Bool.false_eq_true, if_false, if_true]
    exact ord_mix _ _ _ _
  · exact absurd rfl hz
set_option maxHeartbeats 1000000 in
theorem cmp_p (a b : Mo) (w : World) (ha : MoL a) (hb : MoL b) : Calls Tryz.prog 49 #[moV a, moV b] w fun e w' => e = .returned (.int .i64 (cmpM a b)) ∧ Below w.heap.size w w' := by
  obtain ⟨x1, x2, hb0⟩ := box2 w (.cells (moC a) 36) (.cells (moC b) 36)
  have q0 := fun W : World => byLines_p a b W ha hb
  have q1 := fun W : World => put_p a 840 W
  have q2 := fun W : World => put_p b 840 W
  have q3 := fun W : World => byLines_p (ptZ a 840) (ptZ b 840) W (ptZ_L ha (by omega) (by omega)) (ptZ_L hb (by omega) (by omega))
  have q4 := fun W : World => put_p a (-840) W
  have q5 := fun W : World => put_p b (-840) W
  have q6 := fun W : World => byLines_p (ptZ a (-840)) (ptZ b (-840)) W (ptZ_L ha (by omega) (by omega)) (ptZ_L hb (by omega) (by omega))
  have hE := cmp_byZ (a := a) (b := b)
  unfold byZ at hE
  have hF : a.k = b.k → a.hz = b.hz → cmpM a b = ordS (linS a a.z) a.n (linS b b.z) b.n := cmp_eq
  have hG : ¬ a.k = b.k → cmpM a b = 2 := fun h => by unfold cmpM; rw [if_pos h]
  generalize ordS (linS a a.z) a.n (linS b b.z) b.n = R0 at *
  generalize ordS (linS (ptZ a 840) (ptZ a 840).z) (ptZ a 840).n (linS (ptZ b 840) (ptZ b 840).z) (ptZ b 840).n = R1 at *
  generalize ordS (linS (ptZ a (-840)) (ptZ a (-840)).z) (ptZ a (-840)).n (linS (ptZ b (-840)) (ptZ b (-840)).z) (ptZ b (-840)).n = R2 at *
  have HC : Hid _ := And.intro q0 (And.intro q1 (And.intro q2 (And.intro q3 (And.intro q4 (And.intro q5 (And.intro q6 hb0))))))
  clear q0 q1 q2 q3 q4 q5 q6 hb0 ha hb
  generalize ptZ a 840 = a1 at *
  generalize ptZ b 840 = b1 at *
  generalize ptZ a (-840) = a2 at *
  generalize ptZ b (-840) = b2 at *
  generalize cmpM a b = R at *
  have HE : Hid _ := And.intro hE (And.intro hF hG)
  clear hE hF hG
  generalize hU : ((w.alloc (.cells (moC a) 36)).alloc (.cells (moC b) 36)) = U at *
  have hkp : ∀ W, Below U.heap.size U W → (W.cell? ⟨w.heap.size, 0, none⟩ = some (.int .i64 a.k) ∧ W.cell? ⟨w.heap.size, 1, none⟩ = some (.int .i64 a.y) ∧ W.cell? ⟨w.heap.size, 2, none⟩ = some (.int .i64 a.m) ∧ W.cell? ⟨w.heap.size, 3, none⟩ = some (.int .i64 a.d) ∧ W.cell? ⟨w.heap.size, 4, none⟩ = some (.int .i64 a.s) ∧ W.cell? ⟨w.heap.size, 5, none⟩ = some (.int .i64 a.n) ∧ W.cell? ⟨w.heap.size, 6, none⟩ = some (.bool a.hz) ∧ W.cell? ⟨w.heap.size, 7, none⟩ = some (.int .i64 a.z) ∧ W.cell? ⟨w.heap.size + 1, 0, none⟩ = some (.int .i64 b.k) ∧ W.cell? ⟨w.heap.size + 1, 1, none⟩ = some (.int .i64 b.y) ∧ W.cell? ⟨w.heap.size + 1, 2, none⟩ = some (.int .i64 b.m) ∧ W.cell? ⟨w.heap.size + 1, 3, none⟩ = some (.int .i64 b.d) ∧ W.cell? ⟨w.heap.size + 1, 4, none⟩ = some (.int .i64 b.s) ∧ W.cell? ⟨w.heap.size + 1, 5, none⟩ = some (.int .i64 b.n) ∧ W.cell? ⟨w.heap.size + 1, 6, none⟩ = some (.bool b.hz) ∧ W.cell? ⟨w.heap.size + 1, 7, none⟩ = some (.int .i64 b.z)) := fun W hW => by
    obtain ⟨⟨g0, g1, g2, g3, g4, g5, g6, g7⟩, _⟩ := blk8 ((hW.block _ (lt_of x1)).trans x1)
    obtain ⟨⟨h0, h1, h2, h3, h4, h5, h6, h7⟩, _⟩ := blk8 ((hW.block _ (lt_of x2)).trans x2)
    exact ⟨g0, g1, g2, g3, g4, g5, g6, g7, h0, h1, h2, h3, h4, h5, h6, h7⟩
  have HKP : Hid _ := hkp
  clear hkp x1 x2
  have HU : Hid _ := hU
  clear hU
  by_cases hk : a.k = b.k
  · by_cases hz : a.hz = b.hz
    · obtain rfl := HE.out.2.1 hk hz
      have hzz : (a.hz == b.hz) = true := by simpa using hz
      have hkk : (a.k == b.k) = true := by simpa using hk
      have hkn : (a.k != b.k) = false := by simpa using hk
      clear hk hz HE
      go_enter Tryz.func49, Tryz.ntmps49
      go_wp2_with (first | (go_at_call 88; (with_reducible refine Calls.mono (HC.out.1 _) ?_); rintro e w1 ⟨rfl, hb1⟩))
      go_ret
      rw [HU.out] at hb1
      exact ⟨rfl, HC.out.2.2.2.2.2.2.2.trans (hb1.mono HC.out.2.2.2.2.2.2.2.size)⟩
    · have hR := HE.out.1 hk hz
      have HR : Hid _ := hR
      have hzz : (a.hz == b.hz) = false := by simpa using hz
      have hkk : (a.k == b.k) = true := by simpa using hk
      have hkn : (a.k != b.k) = false := by simpa using hk
      clear hR HE hk hz
      go_enter Tryz.func49, Tryz.ntmps49
      go_wp2_with fail
      have hU := HU.out
      rw [hU]
      clear hU
      obtain ⟨g0, g1, g2, g3, g4, g5, g6, g7, h0, h1, h2, h3, h4, h5, h6, h7⟩ := HKP.out U.drew (below_drewN 1)
      have HB : Hid (Below U.heap.size U U.drew) := below_drewN 1
      go_region_held3 (fun W => W.cell? ⟨w.heap.size, 0, none⟩ = some (.int .i64 a.k) ∧ W.cell? ⟨w.heap.size, 1, none⟩ = some (.int .i64 a.y) ∧ W.cell? ⟨w.heap.size, 2, none⟩ = some (.int .i64 a.m) ∧ W.cell? ⟨w.heap.size, 3, none⟩ = some (.int .i64 a.d) ∧ W.cell? ⟨w.heap.size, 4, none⟩ = some (.int .i64 a.s) ∧ W.cell? ⟨w.heap.size, 5, none⟩ = some (.int .i64 a.n) ∧ W.cell? ⟨w.heap.size, 6, none⟩ = some (.bool a.hz) ∧ W.cell? ⟨w.heap.size, 7, none⟩ = some (.int .i64 a.z) ∧ W.cell? ⟨w.heap.size + 1, 0, none⟩ = some (.int .i64 b.k) ∧ W.cell? ⟨w.heap.size + 1, 1, none⟩ = some (.int .i64 b.y) ∧ W.cell? ⟨w.heap.size + 1, 2, none⟩ = some (.int .i64 b.m) ∧ W.cell? ⟨w.heap.size + 1, 3, none⟩ = some (.int .i64 b.d) ∧ W.cell? ⟨w.heap.size + 1, 4, none⟩ = some (.int .i64 b.s) ∧ W.cell? ⟨w.heap.size + 1, 5, none⟩ = some (.int .i64 b.n) ∧ W.cell? ⟨w.heap.size + 1, 6, none⟩ = some (.bool b.hz) ∧ W.cell? ⟨w.heap.size + 1, 7, none⟩ = some (.int .i64 b.z)) (first | exact ⟨g0, g1, g2, g3, g4, g5, g6, g7, h0, h1, h2, h3, h4, h5, h6, h7⟩ | fail) (first
      | (go_at_call 89; (with_reducible refine Calls.mono (HC.out.2.1 _) ?_); rintro e w1 ⟨rfl, hb1⟩; have hbb := HB.out.trans (hb1.mono HB.out.size); clear HB g0 g1 g2 g3 g4 g5 g6 g7 h0 h1 h2 h3 h4 h5 h6 h7; obtain ⟨g0, g1, g2, g3, g4, g5, g6, g7, h0, h1, h2, h3, h4, h5, h6, h7⟩ := HKP.out _ hbb; have HB : Hid _ := hbb; clear hbb hb1)
      | (go_at_call 89; (with_reducible refine Calls.mono (HC.out.2.2.1 _) ?_); rintro e w1 ⟨rfl, hb1⟩; have hbb := HB.out.trans (hb1.mono HB.out.size); clear HB g0 g1 g2 g3 g4 g5 g6 g7 h0 h1 h2 h3 h4 h5 h6 h7; obtain ⟨g0, g1, g2, g3, g4, g5, g6, g7, h0, h1, h2, h3, h4, h5, h6, h7⟩ := HKP.out _ hbb; have HB : Hid _ := hbb; clear hbb hb1)
      | (go_at_call 88; (with_reducible refine Calls.mono (HC.out.2.2.2.1 _) ?_); rintro e w1 ⟨rfl, hb1⟩; have hbb := HB.out.trans (hb1.mono HB.out.size); clear HB g0 g1 g2 g3 g4 g5 g6 g7 h0 h1 h2 h3 h4 h5 h6 h7; obtain ⟨g0, g1, g2, g3, g4, g5, g6, g7, h0, h1, h2, h3, h4, h5, h6, h7⟩ := HKP.out _ hbb; have HB : Hid _ := hbb; clear hbb hb1)
      | fail)
      go_wp2_with fail
      have HB2 : Hid (Below U.heap.size U w1.drew) := bdrewN HB.out 1
      clear HB g0 g1 g2 g3 g4 g5 g6 g7 h0 h1 h2 h3 h4 h5 h6 h7
      obtain ⟨g0, g1, g2, g3, g4, g5, g6, g7, h0, h1, h2, h3, h4, h5, h6, h7⟩ := HKP.out w1.drew HB2.out
      have HB : Hid _ := HB2.out
      go_region_held3 (fun W => W.cell? ⟨w.heap.size, 0, none⟩ = some (.int .i64 a.k) ∧ W.cell? ⟨w.heap.size, 1, none⟩ = some (.int .i64 a.y) ∧ W.cell? ⟨w.heap.size, 2, none⟩ = some (.int .i64 a.m) ∧ W.cell? ⟨w.heap.size, 3, none⟩ = some (.int .i64 a.d) ∧ W.cell? ⟨w.heap.size, 4, none⟩ = some (.int .i64 a.s) ∧ W.cell? ⟨w.heap.size, 5, none⟩ = some (.int .i64 a.n) ∧ W.cell? ⟨w.heap.size, 6, none⟩ = some (.bool a.hz) ∧ W.cell? ⟨w.heap.size, 7, none⟩ = some (.int .i64 a.z) ∧ W.cell? ⟨w.heap.size + 1, 0, none⟩ = some (.int .i64 b.k) ∧ W.cell? ⟨w.heap.size + 1, 1, none⟩ = some (.int .i64 b.y) ∧ W.cell? ⟨w.heap.size + 1, 2, none⟩ = some (.int .i64 b.m) ∧ W.cell? ⟨w.heap.size + 1, 3, none⟩ = some (.int .i64 b.d) ∧ W.cell? ⟨w.heap.size + 1, 4, none⟩ = some (.int .i64 b.s) ∧ W.cell? ⟨w.heap.size + 1, 5, none⟩ = some (.int .i64 b.n) ∧ W.cell? ⟨w.heap.size + 1, 6, none⟩ = some (.bool b.hz) ∧ W.cell? ⟨w.heap.size + 1, 7, none⟩ = some (.int .i64 b.z)) (first | exact ⟨g0, g1, g2, g3, g4, g5, g6, g7, h0, h1, h2, h3, h4, h5, h6, h7⟩ | fail) (first
      | (go_at_call 89; (with_reducible refine Calls.mono (HC.out.2.2.2.2.1 _) ?_); rintro e w1 ⟨rfl, hb1⟩; have hbb := HB.out.trans (hb1.mono HB.out.size); clear HB g0 g1 g2 g3 g4 g5 g6 g7 h0 h1 h2 h3 h4 h5 h6 h7; obtain ⟨g0, g1, g2, g3, g4, g5, g6, g7, h0, h1, h2, h3, h4, h5, h6, h7⟩ := HKP.out _ hbb; have HB : Hid _ := hbb; clear hbb hb1)
      | (go_at_call 89; (with_reducible refine Calls.mono (HC.out.2.2.2.2.2.1 _) ?_); rintro e w1 ⟨rfl, hb1⟩; have hbb := HB.out.trans (hb1.mono HB.out.size); clear HB g0 g1 g2 g3 g4 g5 g6 g7 h0 h1 h2 h3 h4 h5 h6 h7; obtain ⟨g0, g1, g2, g3, g4, g5, g6, g7, h0, h1, h2, h3, h4, h5, h6, h7⟩ := HKP.out _ hbb; have HB : Hid _ := hbb; clear hbb hb1)
      | (go_at_call 88; (with_reducible refine Calls.mono (HC.out.2.2.2.2.2.2.1 _) ?_); rintro e w1 ⟨rfl, hb1⟩; have hbb := HB.out.trans (hb1.mono HB.out.size); clear HB g0 g1 g2 g3 g4 g5 g6 g7 h0 h1 h2 h3 h4 h5 h6 h7; obtain ⟨g0, g1, g2, g3, g4, g5, g6, g7, h0, h1, h2, h3, h4, h5, h6, h7⟩ := HKP.out _ hbb; have HB : Hid _ := hbb; clear hbb hb1)
      | fail)
      cases hq : (R1 != R2)
      · go_wp2_with fail
        go_ret
        exact ⟨ret_int (by rw [HR.out, if_neg (by simpa using hq)]), HC.out.2.2.2.2.2.2.2.trans (HB.out.mono HC.out.2.2.2.2.2.2.2.size)⟩
      · go_wp2_with fail
        go_ret
        exact ⟨ret_int (by rw [HR.out, if_pos (by simpa using hq)]), HC.out.2.2.2.2.2.2.2.trans (HB.out.mono HC.out.2.2.2.2.2.2.2.size)⟩
  · obtain rfl := HE.out.2.2 hk
    have hkk : (a.k == b.k) = false := by simpa using hk
    have hkn : (a.k != b.k) = true := by simpa using hk
    clear hk HE
    go_enter Tryz.func49, Tryz.ntmps49
    go_wp2_with fail
    go_ret
    refine ⟨rfl, ?_⟩
    rw [HU.out]
    exact HC.out.2.2.2.2.2.2.2
end Go.Proofs.YtgaegajcejpmdaaGreatDoor.Dt
namespace Go.Proofs.YtgaegajcejpmdaaGreatDoor.Dt
open Go.RowKit
set_option linter.unusedVariables false

structure SpT (p : Sp) : Prop where
  o0 : -20000000000 < p.o
  o1 : p.o < 20000000000
  s0 : -1000000000000000 < p.s
  s1 : p.s < 1000000000000000
  n0 : -10000000000 < p.n
  n1 : p.n < 10000000000
theorem SpT.b {p : Sp} (h : SpT p) : SpB p := by
  obtain ⟨o0, o1, s0, s1, n0, n1⟩ := h
  exact ⟨by omega, by omega, by omega, by omega, by omega, by omega⟩
theorem MoOk.b {a : Mo} (h : MoOk a) (y0 : -3000000000 < a.y) (y1 : a.y < 3000000000) : MoB a := by
  obtain ⟨hy, m0, m1, d0, d1, s0, s1, n0, n1⟩ := h
  have := (len_in (l := lnY a.y) m0 m1).2
  exact ⟨by omega, by omega, by omega, by omega, by omega, by omega, by omega, by omega, by omega, by omega⟩
theorem civL_in {n : Int} (h0 : -2000000000000 < n) (h1 : n < 2000000000000) : -6000000000 < civL n ∧ civL n < 6000000000 := by
  obtain ⟨a, b⟩ := (civ_is n).within
  have hb : ahd 2000 = 730485 := by decide
  rw [hb] at a b
  generalize civL n = l at *
  unfold ahd at a b
  omega
theorem add_in {a : Mo} {p : Sp} (ha : MoOk a) (y0 : -3000000000 < a.y) (y1 : a.y < 3000000000) (hp : SpT p) : -7000000000 < (addM a p).y ∧ (addM a p).y < 7000000000 := by
  obtain ⟨hy, m0, m1, d0, d1, s0, s1, n0, n1⟩ := ha
  obtain ⟨o0, o1, ps0, ps1, pn0, pn1⟩ := hp
  have hl : -4900000000 < addL a p ∧ addL a p < 4900000000 := by
    have : -3000000000 < lnY a.y ∧ lnY a.y < 3000000001 := by unfold lnY; split <;> omega
    unfold addL
    omega
  have hO : 1 ≤ addO a p ∧ addO a p ≤ 12 := by unfold addO; omega
  have hC : -100 < addC a p ∧ addC a p < 100 := by
    have := len_in (l := addL a p) hO.1 hO.2
    have := len_in (l := lnY a.y) m0 m1
    unfold addC
    split <;> omega
  have hT : -20000000000 < addT a p / 86400 ∧ addT a p / 86400 < 20000000000 := by unfold addT; omega
  have hN : -1950000000000 < addN a p ∧ addN a p < 1950000000000 := by
    unfold addN daysS dayN
    rw [ln_bk, show (addO a p - 1) / 12 = 0 by omega, Int.add_zero, Nat.add_sub_cancel]
    have := cum_nonneg (addL a p) ((addO a p - 1) % 12).toNat
    have := cum_le (addL a p) (show ((addO a p - 1) % 12).toNat ≤ 12 by omega)
    have ha : -1900000000000 < ahd (addL a p) ∧ ahd (addL a p) < 1900000000000 := by unfold ahd; omega
    have hb : ahd 2000 = 730485 := by decide
    omega
  have hc := civL_in (n := addN a p) (by omega) (by omega)
  unfold addM bkY
  dsimp only
  split <;> omega
theorem add_L {a : Mo} {p : Sp} (ha : MoOk a) (y0 : -3000000000 < a.y) (y1 : a.y < 3000000000) (z0 : -1000000 < a.z) (z1 : a.z < 1000000) (hp : SpT p) : MoL (addM a p) := by
  obtain ⟨hy0, hy1⟩ := add_in ha y0 y1 hp
  obtain ⟨hy, m0, m1, d0, d1, s0, s1, n0, n1⟩ := MoOk.add a p
  have := (len_in (l := lnY (addM a p).y) m0 m1).2
  exact ⟨⟨by omega, by omega, by omega, by omega, by omega, by omega, by omega, by omega, by omega, by omega⟩, n0, n1, z0, z1⟩
theorem ref_ok {y m : Int} (hy : y ≠ 0) (m0 : 1 ≤ m) (m1 : m ≤ 12) : MoOk (refM y m) := by
  have := (len_in (l := lnY y) m0 m1).1
  exact ⟨hy, m0, m1, by simp [refM], by simp only [refM]; omega, by simp [refM], by simp [refM], by simp [refM], by simp [refM]⟩
abbrev spC (p : Sp) : Array Value := #[.int .i64 p.o, .int .i64 p.s, .int .i64 p.n]
set_option maxHeartbeats 1000000 in
theorem from_c (y m : Int) (a b : Sp) (A B : Nat) (w : World) (hA : w.heap[A]? = some (.cells (spC a) 38 (0, 0))) (hB : w.heap[B]? = some (.cells (spC b) 38 (0, 0))) (hy : y ≠ 0) (y0 : 0 < y) (y1 : y < 10000) (m0 : 1 ≤ m) (m1 : m ≤ 12) (ha : SpT a) (hb : SpT b) :
    Calls Tryz.prog 90 #[.int .i64 y, .int .i64 m, .pointer (some ⟨A, 0, none⟩), .pointer (some ⟨B, 0, none⟩)] w fun e w' => e = .returned (.int .i64 (cmp4 y m a b)) ∧ Below w.heap.size w w' := by
  have hr := ref_ok hy m0 m1
  have q1 := fun W : World => add_p (refM y m) a W (hr.b (by simp only [refM]; omega) (by simp only [refM]; omega)) ha.b
  have q2 := fun W : World => add_p (refM y m) b W (hr.b (by simp only [refM]; omega) (by simp only [refM]; omega)) hb.b
  have q3 := fun W : World => cmp_p (addM (refM y m) a) (addM (refM y m) b) W (add_L hr (by simp only [refM]; omega) (by simp only [refM]; omega) (by simp [refM]) (by simp [refM]) ha) (add_L hr (by simp only [refM]; omega) (by simp only [refM]; omega) (by simp [refM]) (by simp [refM]) hb)
  unfold cmp4
  have e0 : moV (refM y m) = .agg #[.int .i64 1, .int .i64 y, .int .i64 m, .int .i64 1, .int .i64 0, .int .i64 0, .bool false, .int .i64 0] := rfl
  rw [e0] at q1 q2
  clear e0
  generalize addM (refM y m) a = r1 at *
  generalize addM (refM y m) b = r2 at *
  have hz : Below w.heap.size w (w.alloc (.cells #[.int .i64 1, .int .i64 y, .int .i64 m, .int .i64 1, .int .i64 0, .int .i64 0, .bool false, .int .i64 0] 36)) := (Below.refl _ _).alloc (Nat.le_refl _) _
  have x1 := nw_heap w (.cells #[.int .i64 1, .int .i64 y, .int .i64 m, .int .i64 1, .int .i64 0, .int .i64 0, .bool false, .int .i64 0] 36)
  have HC : Hid _ := And.intro q1 (And.intro q2 (And.intro q3 hz))
  clear q1 q2 q3 hr ha hb
  go_enter Tryz.func90, Tryz.ntmps90
  go_wp2_with fail
  have hA2 := (hz.block _ (lt_of hA)).trans hA
  have hB2 := (hz.block _ (lt_of hB)).trans hB
  clear hA hB hz
  generalize hU : (w.alloc (.cells #[.int .i64 1, .int .i64 y, .int .i64 m, .int .i64 1, .int .i64 0, .int .i64 0, .bool false, .int .i64 0] 36)) = U at *
  clear hU
  have hkp : ∀ W, Below U.heap.size U W → (W.cell? ⟨w.heap.size, 0, none⟩ = some (.int .i64 1) ∧ W.cell? ⟨w.heap.size, 1, none⟩ = some (.int .i64 y) ∧ W.cell? ⟨w.heap.size, 2, none⟩ = some (.int .i64 m) ∧ W.cell? ⟨w.heap.size, 3, none⟩ = some (.int .i64 1) ∧ W.cell? ⟨w.heap.size, 4, none⟩ = some (.int .i64 0) ∧ W.cell? ⟨w.heap.size, 5, none⟩ = some (.int .i64 0) ∧ W.cell? ⟨w.heap.size, 6, none⟩ = some (.bool false) ∧ W.cell? ⟨w.heap.size, 7, none⟩ = some (.int .i64 0) ∧ W.cell? ⟨A, 0, none⟩ = some (.int .i64 a.o) ∧ W.cell? ⟨A, 1, none⟩ = some (.int .i64 a.s) ∧ W.cell? ⟨A, 2, none⟩ = some (.int .i64 a.n) ∧ W.cell? ⟨B, 0, none⟩ = some (.int .i64 b.o) ∧ W.cell? ⟨B, 1, none⟩ = some (.int .i64 b.s) ∧ W.cell? ⟨B, 2, none⟩ = some (.int .i64 b.n)) := fun W hW => by
    obtain ⟨⟨g0, g1, g2, g3, g4, g5, g6, g7⟩, _⟩ := blk8 ((hW.block _ (lt_of x1)).trans x1)
    obtain ⟨h0, h1, h2⟩ := blk3 ((hW.block _ (lt_of hA2)).trans hA2)
    obtain ⟨j0, j1, j2⟩ := blk3 ((hW.block _ (lt_of hB2)).trans hB2)
    exact ⟨g0, g1, g2, g3, g4, g5, g6, g7, h0, h1, h2, j0, j1, j2⟩
  obtain ⟨g0, g1, g2, g3, g4, g5, g6, g7, h0, h1, h2, j0, j1, j2⟩ := hkp U.drew (below_drewN 1)
  have HB : Hid (Below U.heap.size U U.drew) := below_drewN 1
  have HKP : Hid _ := hkp
  clear hkp x1 hA2 hB2
  go_region_held3 (fun W => W.cell? ⟨w.heap.size, 0, none⟩ = some (.int .i64 1) ∧ W.cell? ⟨w.heap.size, 1, none⟩ = some (.int .i64 y) ∧ W.cell? ⟨w.heap.size, 2, none⟩ = some (.int .i64 m) ∧ W.cell? ⟨w.heap.size, 3, none⟩ = some (.int .i64 1) ∧ W.cell? ⟨w.heap.size, 4, none⟩ = some (.int .i64 0) ∧ W.cell? ⟨w.heap.size, 5, none⟩ = some (.int .i64 0) ∧ W.cell? ⟨w.heap.size, 6, none⟩ = some (.bool false) ∧ W.cell? ⟨w.heap.size, 7, none⟩ = some (.int .i64 0) ∧ W.cell? ⟨A, 0, none⟩ = some (.int .i64 a.o) ∧ W.cell? ⟨A, 1, none⟩ = some (.int .i64 a.s) ∧ W.cell? ⟨A, 2, none⟩ = some (.int .i64 a.n) ∧ W.cell? ⟨B, 0, none⟩ = some (.int .i64 b.o) ∧ W.cell? ⟨B, 1, none⟩ = some (.int .i64 b.s) ∧ W.cell? ⟨B, 2, none⟩ = some (.int .i64 b.n)) (first | exact ⟨g0, g1, g2, g3, g4, g5, g6, g7, h0, h1, h2, j0, j1, j2⟩ | fail) (first
    | (go_at_call 91; (with_reducible refine Calls.mono (HC.out.1 _) ?_); rintro e w1 ⟨rfl, hb1⟩; have hbb := HB.out.trans (hb1.mono HB.out.size); clear HB g0 g1 g2 g3 g4 g5 g6 g7 h0 h1 h2 j0 j1 j2; obtain ⟨g0, g1, g2, g3, g4, g5, g6, g7, h0, h1, h2, j0, j1, j2⟩ := HKP.out _ hbb; have HB : Hid _ := hbb; clear hbb hb1)
    | (go_at_call 91; (with_reducible refine Calls.mono (HC.out.2.1 _) ?_); rintro e w1 ⟨rfl, hb1⟩; have hbb := HB.out.trans (hb1.mono HB.out.size); clear HB g0 g1 g2 g3 g4 g5 g6 g7 h0 h1 h2 j0 j1 j2; obtain ⟨g0, g1, g2, g3, g4, g5, g6, g7, h0, h1, h2, j0, j1, j2⟩ := HKP.out _ hbb; have HB : Hid _ := hbb; clear hbb hb1)
    | (go_at_call 49; (with_reducible refine Calls.mono (HC.out.2.2.1 _) ?_); rintro e w1 ⟨rfl, hb1⟩; have hbb := HB.out.trans (hb1.mono HB.out.size); clear HB g0 g1 g2 g3 g4 g5 g6 g7 h0 h1 h2 j0 j1 j2; obtain ⟨g0, g1, g2, g3, g4, g5, g6, g7, h0, h1, h2, j0, j1, j2⟩ := HKP.out _ hbb; have HB : Hid _ := hbb; clear hbb hb1)
    | fail)
  all_goals
    go_wp2_with fail
    go_ret
    exact ⟨rfl, HC.out.2.2.2.trans (HB.out.mono HC.out.2.2.2.size)⟩
set_option maxHeartbeats 1000000 in
theorem cmpSpan_p (a b : Sp) (w : World) (ha : SpT a) (hb : SpT b) : Calls Tryz.prog 50 #[spV a, spV b] w fun e w' => e = .returned (.int .i64 (cmpP a b)) ∧ Below w.heap.size w w' := by
  obtain ⟨x1, x2, hb0⟩ := box2 w (.cells (spC a) 38) (.cells (spC b) 38)
  have q1 := fun (W : World) (hW : Below ((w.alloc (.cells (spC a) 38)).alloc (.cells (spC b) 38)).heap.size ((w.alloc (.cells (spC a) 38)).alloc (.cells (spC b) 38)) W) => from_c 1696 9 a b w.heap.size (w.heap.size + 1) W ((hW.block _ (lt_of x1)).trans x1) ((hW.block _ (lt_of x2)).trans x2) (by omega) (by omega) (by omega) (by omega) (by omega) ha hb
  have q2 := fun (W : World) (hW : Below ((w.alloc (.cells (spC a) 38)).alloc (.cells (spC b) 38)).heap.size ((w.alloc (.cells (spC a) 38)).alloc (.cells (spC b) 38)) W) => from_c 1697 2 a b w.heap.size (w.heap.size + 1) W ((hW.block _ (lt_of x1)).trans x1) ((hW.block _ (lt_of x2)).trans x2) (by omega) (by omega) (by omega) (by omega) (by omega) ha hb
  have q3 := fun (W : World) (hW : Below ((w.alloc (.cells (spC a) 38)).alloc (.cells (spC b) 38)).heap.size ((w.alloc (.cells (spC a) 38)).alloc (.cells (spC b) 38)) W) => from_c 1903 3 a b w.heap.size (w.heap.size + 1) W ((hW.block _ (lt_of x1)).trans x1) ((hW.block _ (lt_of x2)).trans x2) (by omega) (by omega) (by omega) (by omega) (by omega) ha hb
  have q4 := fun (W : World) (hW : Below ((w.alloc (.cells (spC a) 38)).alloc (.cells (spC b) 38)).heap.size ((w.alloc (.cells (spC a) 38)).alloc (.cells (spC b) 38)) W) => from_c 1903 7 a b w.heap.size (w.heap.size + 1) W ((hW.block _ (lt_of x1)).trans x1) ((hW.block _ (lt_of x2)).trans x2) (by omega) (by omega) (by omega) (by omega) (by omega) ha hb
  have hE : cmpP a b = if cmp4 1696 9 a b = cmp4 1903 7 a b ∧ cmp4 1697 2 a b = cmp4 1903 7 a b ∧ cmp4 1903 3 a b = cmp4 1903 7 a b then cmp4 1903 7 a b else 2 := rfl
  rw [hE]
  clear hE
  generalize cmp4 1696 9 a b = R1 at *
  generalize cmp4 1697 2 a b = R2 at *
  generalize cmp4 1903 3 a b = R3 at *
  generalize cmp4 1903 7 a b = R4 at *
  obtain ⟨R, hR⟩ : ∃ R, (if R1 = R4 ∧ R2 = R4 ∧ R3 = R4 then R4 else 2) = R := ⟨_, rfl⟩
  rw [hR]
  have HR : Hid _ := hR
  clear hR
  have HC : Hid _ := And.intro q1 (And.intro q2 (And.intro q3 (And.intro q4 hb0)))
  clear q1 q2 q3 q4 ha hb x1 x2 hb0
  have HB : Hid (Below ((w.alloc (.cells (spC a) 38)).alloc (.cells (spC b) 38)).heap.size ((w.alloc (.cells (spC a) 38)).alloc (.cells (spC b) 38)) ((w.alloc (.cells (spC a) 38)).alloc (.cells (spC b) 38))) := Below.refl _ _
  go_enter Tryz.func50, Tryz.ntmps50
  go_wp2_with fail
  refine Calls.mono (HC.out.1 _ HB.out) ?_
  rintro e w1 ⟨rfl, hb1⟩
  have hbb := HB.out.trans (hb1.mono HB.out.size)
  clear HB
  have HB : Hid _ := hbb
  clear hbb hb1
  cases hq1 : (R2 != R1)
  · cases hq2 : (R3 != R1)
    · cases hq3 : (R4 != R1)
      · go_wp2_with fail
        refine Calls.mono (HC.out.2.1 _ HB.out) ?_
        rintro e w1 ⟨rfl, hb1⟩
        have hbb := HB.out.trans (hb1.mono HB.out.size)
        clear HB
        have HB : Hid _ := hbb
        clear hbb hb1
        go_wp2_with fail
        refine Calls.mono (HC.out.2.2.1 _ HB.out) ?_
        rintro e w1 ⟨rfl, hb1⟩
        have hbb := HB.out.trans (hb1.mono HB.out.size)
        clear HB
        have HB : Hid _ := hbb
        clear hbb hb1
        go_wp2_with fail
        refine Calls.mono (HC.out.2.2.2.1 _ HB.out) ?_
        rintro e w1 ⟨rfl, hb1⟩
        have hbb := HB.out.trans (hb1.mono HB.out.size)
        clear HB
        have HB : Hid _ := hbb
        clear hbb hb1
        go_wp2_with fail
        go_ret
        exact ⟨ret_int (by simp at hq1 hq2 hq3; rw [← HR.out, if_pos (by omega)]; omega), HC.out.2.2.2.2.trans (HB.out.mono HC.out.2.2.2.2.size)⟩
      · go_wp2_with fail
        refine Calls.mono (HC.out.2.1 _ HB.out) ?_
        rintro e w1 ⟨rfl, hb1⟩
        have hbb := HB.out.trans (hb1.mono HB.out.size)
        clear HB
        have HB : Hid _ := hbb
        clear hbb hb1
        go_wp2_with fail
        refine Calls.mono (HC.out.2.2.1 _ HB.out) ?_
        rintro e w1 ⟨rfl, hb1⟩
        have hbb := HB.out.trans (hb1.mono HB.out.size)
        clear HB
        have HB : Hid _ := hbb
        clear hbb hb1
        go_wp2_with fail
        refine Calls.mono (HC.out.2.2.2.1 _ HB.out) ?_
        rintro e w1 ⟨rfl, hb1⟩
        have hbb := HB.out.trans (hb1.mono HB.out.size)
        clear HB
        have HB : Hid _ := hbb
        clear hbb hb1
        go_wp2_with fail
        go_ret
        exact ⟨ret_int (by simp at hq1 hq2 hq3; rw [← HR.out, if_neg (by omega)]), HC.out.2.2.2.2.trans (HB.out.mono HC.out.2.2.2.2.size)⟩
    · go_wp2_with fail
      refine Calls.mono (HC.out.2.1 _ HB.out) ?_
      rintro e w1 ⟨rfl, hb1⟩
      have hbb := HB.out.trans (hb1.mono HB.out.size)
      clear HB
      have HB : Hid _ := hbb
      clear hbb hb1
      go_wp2_with fail
      refine Calls.mono (HC.out.2.2.1 _ HB.out) ?_
      rintro e w1 ⟨rfl, hb1⟩
      have hbb := HB.out.trans (hb1.mono HB.out.size)
      clear HB
      have HB : Hid _ := hbb
      clear hbb hb1
      go_wp2_with fail
      go_ret
      exact ⟨ret_int (by simp at hq1 hq2; rw [← HR.out, if_neg (by omega)]), HC.out.2.2.2.2.trans (HB.out.mono HC.out.2.2.2.2.size)⟩
  · go_wp2_with fail
    refine Calls.mono (HC.out.2.1 _ HB.out) ?_
    rintro e w1 ⟨rfl, hb1⟩
    have hbb := HB.out.trans (hb1.mono HB.out.size)
    clear HB
    have HB : Hid _ := hbb
    clear hbb hb1
    go_wp2_with fail
    go_ret
    exact ⟨ret_int (by simp at hq1; rw [← HR.out, if_neg (by omega)]), HC.out.2.2.2.2.trans (HB.out.mono HC.out.2.2.2.2.size)⟩
end Go.Proofs.YtgaegajcejpmdaaGreatDoor.Dt
