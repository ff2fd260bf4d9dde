/- PatJoins: the walk. -/
import Derived.Test.YthlkbijpphdblaaZ52
namespace Go.Proofs.Ythlkbijpphdblaa
open Go.RowKit
set_option linter.unusedVariables false

set_option maxRecDepth 4000 in
set_option maxHeartbeats 16000000 in
theorem joins_s (a b : ByteArray) (lo more : Int) (w : World) : Calls Try.prog 3 #[.string a, .string b, .int .i64 lo, .int .i64 more] w fun e w' => e = .returned (.bool true) ∧ Below w.heap.size w w' := by
  go_enter Try.func3, Try.ntmps3
  go_wp2_with fail
  refine Calls.mono (known_p w) ?_
  rintro e w0 ⟨rfl, hb0⟩
  have H0 : Hid _ := hb0
  clear hb0
  by_cases g1 : (300 : Int) < (a.size : Int)
  · go_wp2_with fail
    go_ret
    exact ⟨rfl, H0.out⟩
  by_cases g2 : (300 : Int) < (b.size : Int)
  · go_wp2_with fail
    go_ret
    exact ⟨rfl, H0.out⟩
  by_cases g3 : lo < 0
  · go_wp2_with fail
    go_ret
    exact ⟨rfl, H0.out⟩
  by_cases g4 : 500 < lo
  · go_wp2_with fail
    go_ret
    exact ⟨rfl, H0.out⟩
  by_cases g5 : more < 0
  · go_wp2_with fail
    go_ret
    exact ⟨rfl, H0.out⟩
  by_cases g6 : 500 < more
  · go_wp2_with fail
    go_ret
    exact ⟨rfl, H0.out⟩
  go_wp2_with fail
  refine Calls.mono (parse_y a _) ?_
  rintro e w1 ⟨x0, x1, x2, x3, x4, x5, x6, x7, x8, xp, xe, rfl, hb1, hx1, hx2⟩
  have H1 : Hid _ := And.intro hb1 (And.intro hx1 hx2)
  clear hb1 hx1 hx2
  go_wp2_with fail
  refine Calls.mono (parse_y b _) ?_
  rintro e w2 ⟨y0, y1, y2, y3, y4, y5, y6, y7, y8, yp, ye, rfl, hb2, hy1, hy2⟩
  have bW2 : Below w.heap.size w w2 := by
    have u0 := H0.out.trans (H1.out.1.mono H0.out.size)
    have u1 := u0.alloc u0.size (.cells #[.int .i64 x0, .slice x1 x2 x3, .int .i64 x4, .int .i64 x5, .slice x6 x7 x8] 27)
    exact u1.trans (hb2.mono u1.size)
  have H2 : Hid _ := And.intro hb2 (And.intro hy1 (And.intro hy2 bW2))
  clear hb2 hy1 hy2 bW2
  have hYa : ∀ o, Below w.heap.size w (w2.alloc o) := fun o => H2.out.2.2.2.alloc H2.out.2.2.2.size o
  have HY : Hid _ := hYa
  clear hYa
  by_cases e1 : xe = 0
  case neg =>
    have e1' : (xe != 0) = true := by simpa using e1
    go_wp2_with fail
    go_ret
    exact ⟨rfl, HY.out _⟩
  by_cases e2 : ye = 0
  case neg =>
    have e2' : (ye != 0) = true := by simpa using e2
    subst e1
    go_wp2_with fail
    go_ret
    exact ⟨rfl, HY.out _⟩
  subst e1 e2
  have s1 : a.size ≤ 300 := by omega
  have s2 : b.size ≤ 300 := by omega
  go_wp2_with fail
  refine Calls.mono (parse_y _ _) ?_
  rintro e w3 ⟨p0, p1, p2, p3, p4, p5, p6, p7, p8, pp, pe, rfl, hb3, hp1, hp2⟩
  have H3 : Hid _ := And.intro hb3 (And.intro hp1 hp2)
  clear hb3 hp1 hp2
  go_wp2_with fail
  refine Calls.mono (parse_y _ _) ?_
  rintro e w4 ⟨q0, q1, q2, q3, q4, q5, q6, q7, q8, qp, qe, rfl, hb4, hq1, hq2⟩
  have H4 : Hid _ := And.intro hb4 (And.intro hq1 hq2)
  clear hb4 hq1 hq2
  go_wp2_with fail
  refine Calls.mono (parse_y _ _) ?_
  rintro e w5 ⟨r0, r1, r2, r3, r4, r5, r6, r7, r8, rp, re, rfl, hb5, hr1, hr2⟩
  have H5 : Hid _ := And.intro hb5 (And.intro hr1 hr2)
  clear hb5 hr1 hr2
  go_wp2_with fail
  refine Calls.mono (decimal_l lo _ (by omega) (by omega)) ?_
  rintro e w6 ⟨dl, rfl, hd1, hd2, hb6⟩
  have H6 : Hid _ := And.intro hb6 hd1
  clear hb6 hd1
  go_wp2_with fail
  refine Calls.mono (decimal_l (lo + more) _ (by omega) (by omega)) ?_
  rintro e w7 ⟨dh, rfl, hd3, hd4, hb7⟩
  have H7 : Hid _ := And.intro hb7 hd3
  clear hb7 hd3
  go_wp2_with fail
  refine Calls.mono (parse_y _ _) ?_
  rintro e w8 ⟨z0, z1, z2, z3, z4, z5, z6, z7, z8, zp, ze, rfl, hb8, hs1, hs2⟩
  have H8 : Hid _ := And.intro hb8 (And.intro hs1 hs2)
  clear hb8 hs1 hs2
  go_upto_region 13 with fail
  have hA : bl (⟨#[40]⟩ ++ a ++ ⟨#[41]⟩) = tP (bl a) := by
    rw [bl_app, bl_app]
    simp [bl, tP]
  have hB : bl (⟨#[40]⟩ ++ a ++ ⟨#[41, 124, 40]⟩ ++ b ++ ⟨#[41]⟩) = tQ (bl a) (bl b) := by
    rw [bl_app, bl_app, bl_app, bl_app]
    simp [bl, tQ]
  have hC : bl (⟨#[40]⟩ ++ a ++ ⟨#[41, 40]⟩ ++ b ++ ⟨#[41]⟩) = tR (bl a) (bl b) := by
    rw [bl_app, bl_app, bl_app, bl_app]
    simp [bl, tR]
  have hD : bl (⟨#[40]⟩ ++ a ++ ⟨#[41, 123]⟩ ++ dl ++ ⟨#[44]⟩ ++ dh ++ ⟨#[125]⟩) = tS (bl a) lo.toNat (lo + more).toNat := by
    rw [bl_app, bl_app, bl_app, bl_app, bl_app, bl_app, H6.out.2, H7.out.2, nb_dc (by omega) (by omega), nb_dc (by omega) (by omega)]
    have e1 : bl ⟨#[40]⟩ = [40] := rfl
    have e2 : bl ⟨#[41, 123]⟩ = [41, 123] := rfl
    have e3 : bl ⟨#[44]⟩ = [44] := rfl
    have e4 : bl ⟨#[125]⟩ = [125] := rfl
    rw [e1, e2, e3, e4]
    simp [tS]
  have b8 := H8.out.1
  have b7 := H7.out.1
  have b6 := H6.out.1
  have b5 := H5.out.1
  have b4 := H4.out.1
  have b3 := H3.out.1
  have b2 := H2.out.1
  obtain ⟨V, hV⟩ : ∃ V, w8.alloc (.cells #[.int .i64 z0, .slice z1 z2 z3, .int .i64 z4, .int .i64 z5, .slice z6 z7 z8] 27) = V := ⟨_, rfl⟩
  have E8 : Below w8.heap.size w8 V := by rw [← hV]; exact (Below.refl _ _).alloc (Nat.le_refl _) _
  have nS : V.heap[w8.heap.size]? = some (.cells #[.int .i64 z0, .slice z1 z2 z3, .int .i64 z4, .int .i64 z5, .slice z6 z7 z8] 27 (0, 0)) := by rw [← hV]; exact nw_heap w8 _
  rw [hV]
  clear hV
  have D7 := b8.trans (E8.mono b8.size)
  have D6 := b7.trans (D7.mono b7.size)
  have D5 := b6.trans (D6.mono b6.size)
  have al : ∀ (u : World) (o : Obj), Below u.heap.size u (u.alloc o) := fun u o => (Below.refl _ _).alloc (Nat.le_refl _) _
  have E5 := (al _ _).trans (D5.mono (al w5 (.cells #[.int .i64 r0, .slice r1 r2 r3, .int .i64 r4, .int .i64 r5, .slice r6 r7 r8] 27)).size)
  have D4 := b5.trans (E5.mono b5.size)
  have E4 := (al _ _).trans (D4.mono (al w4 (.cells #[.int .i64 q0, .slice q1 q2 q3, .int .i64 q4, .int .i64 q5, .slice q6 q7 q8] 27)).size)
  have D3 := b4.trans (E4.mono b4.size)
  have E3 := (al _ _).trans (D3.mono (al w3 (.cells #[.int .i64 p0, .slice p1 p2 p3, .int .i64 p4, .int .i64 p5, .slice p6 p7 p8] 27)).size)
  have D2 := b3.trans (E3.mono b3.size)
  have E2 := (al _ _).trans (D2.mono (al w2 (.cells #[.int .i64 y0, .slice y1 y2 y3, .int .i64 y4, .int .i64 y5, .slice y6 y7 y8] 27)).size)
  have D1 := b2.trans (E2.mono b2.size)
  have E1 := (al _ _).trans (D1.mono (al w1 (.cells #[.int .i64 x0, .slice x1 x2 x3, .int .i64 x4, .int .i64 x5, .slice x6 x7 x8] 27)).size)
  have nR : V.heap[w5.heap.size]? = some (.cells #[.int .i64 r0, .slice r1 r2 r3, .int .i64 r4, .int .i64 r5, .slice r6 r7 r8] 27 (0, 0)) := (D5.block _ (by rw [sza]; omega)).trans (nw_heap w5 _)
  have nQ : V.heap[w4.heap.size]? = some (.cells #[.int .i64 q0, .slice q1 q2 q3, .int .i64 q4, .int .i64 q5, .slice q6 q7 q8] 27 (0, 0)) := (D4.block _ (by rw [sza]; omega)).trans (nw_heap w4 _)
  have nP : V.heap[w3.heap.size]? = some (.cells #[.int .i64 p0, .slice p1 p2 p3, .int .i64 p4, .int .i64 p5, .slice p6 p7 p8] 27 (0, 0)) := (D3.block _ (by rw [sza]; omega)).trans (nw_heap w3 _)
  have nY : V.heap[w2.heap.size]? = some (.cells #[.int .i64 y0, .slice y1 y2 y3, .int .i64 y4, .int .i64 y5, .slice y6 y7 y8] 27 (0, 0)) := (D2.block _ (by rw [sza]; omega)).trans (nw_heap w2 _)
  have nX : V.heap[w1.heap.size]? = some (.cells #[.int .i64 x0, .slice x1 x2 x3, .int .i64 x4, .int .i64 x5, .slice x6 x7 x8] 27 (0, 0)) := (D1.block _ (by rw [sza]; omega)).trans (nw_heap w1 _)
  have bV : Below w.heap.size w V := H2.out.2.2.2.trans (E2.mono H2.out.2.2.2.size)
  have ex : ∃ x ka, parS (bl a) = .ok x ka := by
    cases hp : parS (bl a) with
    | ok x ka => exact ⟨x, ka, rfl⟩
    | bad i j => exact absurd (H1.out.2.2 i j hp).symm (par_ne hp)
  have ey : ∃ y kb, parS (bl b) = .ok y kb := by
    cases hp : parS (bl b) with
    | ok x ka => exact ⟨x, ka, rfl⟩
    | bad i j => exact absurd (H2.out.2.2.1 i j hp).symm (par_ne hp)
  obtain ⟨x, ka, hpx⟩ := ex
  obtain ⟨y, kb, hpy⟩ := ey
  have J := joins_plain (lo := lo.toNat) (hi := (lo + more).toNat) hpx hpy (by rw [bl_len]; omega) (by rw [bl_len]; omega) (by omega) (by omega)
  have gx := par_gd (bl_bd a) hpx
  have gy := par_gd (bl_bd b) hpy
  have vx := ((H1.out.2.1 x ka hpx).2).bel E1
  have vy := ((H2.out.2.1 y kb hpy).2).bel E2
  have H9 : Hid (Below w.heap.size w V) := bV
  rcases J with ⟨i, hP⟩ | ⟨i, hQ⟩ | ⟨⟨kp, hP⟩, ⟨kq, hQ⟩, ⟨kr, hR⟩, ⟨ks, hS⟩⟩
  · have e3 : pe = 3 := H3.out.2.2 i 3 (by rw [hA]; exact hP)
    subst e3
    clear hA hB hC hD b8 b7 b6 b5 b4 b3 b2 E8 nS D7 D6 D5 al E5 D4 E4 D3 E3 D2 E2 D1 E1 nR nQ nP nY nX bV hpx hpy hP vx vy H1 H2 H3 H4 H5 H6 H7 H8
    go_wp2_with fail
    go_ret
    exact ⟨rfl, H9.out⟩
  · have e3 : qe = 3 := H4.out.2.2 i 3 (by rw [hB]; exact hQ)
    subst e3
    clear hA hB hC hD b8 b7 b6 b5 b4 b3 b2 E8 nS D7 D6 D5 al E5 D4 E4 D3 E3 D2 E2 D1 E1 nR nQ nP nY nX bV hpx hpy hQ vx vy H1 H2 H3 H4 H5 H6 H7 H8
    by_cases hpe : pe = 3
    · subst hpe
      go_wp2_with fail
      go_ret
      exact ⟨rfl, H9.out⟩
    · have hpe' : (pe == 3) = false := by simpa using hpe
      go_wp2_with fail
      go_ret
      exact ⟨rfl, H9.out⟩
  · obtain ⟨e3, vp⟩ := H3.out.2.1 x kp (by rw [hA]; exact hP)
    obtain ⟨e4, vq⟩ := H4.out.2.1 _ kq (by rw [hB]; exact hQ)
    obtain ⟨e5, vr⟩ := H5.out.2.1 _ kr (by rw [hC]; exact hR)
    obtain ⟨e6, vz⟩ := H8.out.2.1 _ ks (by rw [hD]; exact hS)
    have vp' := vp.bel E3
    have vq' := vq.bel E4
    have vr' := vr.bel E5
    have vz' := vz.bel E8
    rw [Int.toNat_of_nonneg (by omega), Int.toNat_of_nonneg (by omega)] at vz'
    have HB : Hid _ := And.intro nX (And.intro nY (And.intro nP (And.intro nQ (And.intro nR nS))))
    have HV : Hid _ := And.intro vx (And.intro vy (And.intro vp' (And.intro vq' (And.intro vr' vz'))))
    clear hA hB hC hD b8 b7 b6 b5 b4 b3 b2 E8 nS D7 D6 D5 al E5 D4 E4 D3 E3 D2 E2 D1 E1 nR nQ nP nY nX bV hpx hpy hP hQ hR hS vx vy vp vq vr vz vp' vq' vr' vz' H1 H2 H3 H4 H5 H6 H7 H8
    subst e3 e4 e5 e6
    have vz := HV.out.2.2.2.2.2
    obtain ⟨vs, gb, off, cap, css, hz, hcap, hk⟩ := kid_at vz (by simp)
    simp only [List.cons.injEq, Value.int.injEq, Value.slice.injEq, true_and, and_true, List.length_cons, List.length_nil, Nat.zero_add] at hz
    obtain ⟨h0, h1, h2, h3, h4, h5, h6⟩ := hz
    have h2' := h2.symm
    have h3' := h3.symm
    have h4' := h4.symm
    have h6' := h6.symm
    subst h0 h2' h3' h4' h6'
    subst h5
    have kk := hk 0 (by simp)
    obtain ⟨k0, k1, k2, k3, k4, k5, k6, k7, k8, hf⟩ := nd_form kk.nd
    rw [hf] at kk
    have HK : Hid _ := kk
    clear vz hk hf kk hcap h1 h2 h3 h4 h6
    go_upto_region 15 with fail
    have f15 : ∀ X, Below V.heap.size V X → (X.cell? ⟨w1.heap.size, 0, none⟩ = some (.int .i64 x0) ∧ X.cell? ⟨w1.heap.size, 1, none⟩ = some (.slice x1 x2 x3) ∧ X.cell? ⟨w1.heap.size, 2, none⟩ = some (.int .i64 x4) ∧ X.cell? ⟨w1.heap.size, 3, none⟩ = some (.int .i64 x5) ∧ X.cell? ⟨w1.heap.size, 4, none⟩ = some (.slice x6 x7 x8)) ∧ (X.cell? ⟨w3.heap.size, 0, none⟩ = some (.int .i64 p0) ∧ X.cell? ⟨w3.heap.size, 1, none⟩ = some (.slice p1 p2 p3) ∧ X.cell? ⟨w3.heap.size, 2, none⟩ = some (.int .i64 p4) ∧ X.cell? ⟨w3.heap.size, 3, none⟩ = some (.int .i64 p5) ∧ X.cell? ⟨w3.heap.size, 4, none⟩ = some (.slice p6 p7 p8)) := fun X hX =>
      ⟨(cells5 ((hX.block _ (lt_of HB.out.1)).trans HB.out.1)).1, (cells5 ((hX.block _ (lt_of HB.out.2.2.1)).trans HB.out.2.2.1)).1⟩
    have HFS : Hid _ := f15
    have HC : Hid (Below V.heap.size V V.drew) := bdrewN (Below.refl _ _) 1
    clear f15
    go_region_held_law (fun X => (X.cell? ⟨w1.heap.size, 0, none⟩ = some (.int .i64 x0) ∧ X.cell? ⟨w1.heap.size, 1, none⟩ = some (.slice x1 x2 x3) ∧ X.cell? ⟨w1.heap.size, 2, none⟩ = some (.int .i64 x4) ∧ X.cell? ⟨w1.heap.size, 3, none⟩ = some (.int .i64 x5) ∧ X.cell? ⟨w1.heap.size, 4, none⟩ = some (.slice x6 x7 x8)) ∧ (X.cell? ⟨w3.heap.size, 0, none⟩ = some (.int .i64 p0) ∧ X.cell? ⟨w3.heap.size, 1, none⟩ = some (.slice p1 p2 p3) ∧ X.cell? ⟨w3.heap.size, 2, none⟩ = some (.int .i64 p4) ∧ X.cell? ⟨w3.heap.size, 3, none⟩ = some (.int .i64 p5) ∧ X.cell? ⟨w3.heap.size, 4, none⟩ = some (.slice p6 p7 p8))) (first | with_reducible exact HFS.out _ HC.out | fail)
      (first
        | (go_at_call 8; have hq := same_n gx HA1.out HA2.out; (with_reducible refine Calls.mono hq ?_); clear hq; rintro e w9 ⟨rfl, hb7⟩; have hc7 := HC.out.trans (hb7.mono HC.out.size); clear HC HA1 HA2; have HC : Hid (Below V.heap.size V w9) := hc7; clear hc7 hb7)
        | (go_at_call 9; have hq := of_n gx (HV.out.2.2.1.bel HC.out); (with_reducible refine Calls.mono hq ?_); clear hq; intro e w9 hq6; obtain ⟨a0, a1, a2, a3, a4, a5, a6, a7, a8, rfl, hr6, hb6⟩ := hq6.on; clear hq6; have hc6 := HC.out.trans (hb6.mono HC.out.size); clear HC; have HC : Hid (Below V.heap.size V w9) := hc6; have HA1 : Hid _ := hr6; clear hc6 hb6 hr6)
        | (go_at_call 9; have hq := of_n gx (HV.out.1.bel HC.out); (with_reducible refine Calls.mono hq ?_); clear hq; intro e w9 hq6; obtain ⟨c0, c1, c2, c3, c4, c5, c6, c7, c8, rfl, hr6, hb6⟩ := hq6.on; clear hq6; have hc6 := HC.out.trans (hb6.mono HC.out.size); have ha1 := HA1.out.bl2 hb6; clear HC HA1; have HC : Hid (Below V.heap.size V w9) := hc6; have HA1 : Hid _ := ha1; have HA2 : Hid _ := hr6; clear hc6 hb6 hr6 ha1)
        | fail)
    obtain ⟨U, hU⟩ : ∃ U, w9 = U := ⟨_, rfl⟩
    have hc := HC.out
    rw [hU] at hc ⊢
    have f17 : ∀ X, Below U.heap.size U X → (X.cell? ⟨w1.heap.size, 0, none⟩ = some (.int .i64 x0) ∧ X.cell? ⟨w1.heap.size, 1, none⟩ = some (.slice x1 x2 x3) ∧ X.cell? ⟨w1.heap.size, 2, none⟩ = some (.int .i64 x4) ∧ X.cell? ⟨w1.heap.size, 3, none⟩ = some (.int .i64 x5) ∧ X.cell? ⟨w1.heap.size, 4, none⟩ = some (.slice x6 x7 x8)) ∧ (X.cell? ⟨w2.heap.size, 0, none⟩ = some (.int .i64 y0) ∧ X.cell? ⟨w2.heap.size, 1, none⟩ = some (.slice y1 y2 y3) ∧ X.cell? ⟨w2.heap.size, 2, none⟩ = some (.int .i64 y4) ∧ X.cell? ⟨w2.heap.size, 3, none⟩ = some (.int .i64 y5) ∧ X.cell? ⟨w2.heap.size, 4, none⟩ = some (.slice y6 y7 y8)) ∧ (X.cell? ⟨w4.heap.size, 0, none⟩ = some (.int .i64 q0) ∧ X.cell? ⟨w4.heap.size, 1, none⟩ = some (.slice q1 q2 q3) ∧ X.cell? ⟨w4.heap.size, 2, none⟩ = some (.int .i64 q4) ∧ X.cell? ⟨w4.heap.size, 3, none⟩ = some (.int .i64 q5) ∧ X.cell? ⟨w4.heap.size, 4, none⟩ = some (.slice q6 q7 q8)) ∧ (X.cell? ⟨w5.heap.size, 0, none⟩ = some (.int .i64 r0) ∧ X.cell? ⟨w5.heap.size, 1, none⟩ = some (.slice r1 r2 r3) ∧ X.cell? ⟨w5.heap.size, 2, none⟩ = some (.int .i64 r4) ∧ X.cell? ⟨w5.heap.size, 3, none⟩ = some (.int .i64 r5) ∧ X.cell? ⟨w5.heap.size, 4, none⟩ = some (.slice r6 r7 r8)) ∧ (X.cell? ⟨w8.heap.size, 0, none⟩ = some (.int .i64 5) ∧ X.cell? ⟨w8.heap.size, 1, none⟩ = some (.slice z1 z2 z3) ∧ X.cell? ⟨w8.heap.size, 2, none⟩ = some (.int .i64 lo) ∧ X.cell? ⟨w8.heap.size, 3, none⟩ = some (.int .i64 (lo + more)) ∧ X.cell? ⟨w8.heap.size, 4, none⟩ = some (.slice (some ⟨gb, off, none⟩) 1 cap)) ∧ (X.cell? ⟨gb, off, none⟩ = some (.int .i64 k0) ∧ X.cell? ⟨gb, off + 1, none⟩ = some (.slice k1 k2 k3) ∧ X.cell? ⟨gb, off + 2, none⟩ = some (.int .i64 k4) ∧ X.cell? ⟨gb, off + 3, none⟩ = some (.int .i64 k5) ∧ X.cell? ⟨gb, off + 4, none⟩ = some (.slice k6 k7 k8)) := fun X hX => by
      have hVX := hc.trans (hX.mono hc.size)
      have kc := (HK.out.on hVX).cl
      exact ⟨(cells5 ((hVX.block _ (lt_of HB.out.1)).trans HB.out.1)).1, (cells5 ((hVX.block _ (lt_of HB.out.2.1)).trans HB.out.2.1)).1, (cells5 ((hVX.block _ (lt_of HB.out.2.2.2.1)).trans HB.out.2.2.2.1)).1, (cells5 ((hVX.block _ (lt_of HB.out.2.2.2.2.1)).trans HB.out.2.2.2.2.1)).1, (cells5 ((hVX.block _ (lt_of HB.out.2.2.2.2.2)).trans HB.out.2.2.2.2.2)).1, kc 0 _ rfl, kc 1 _ rfl, kc 2 _ rfl, kc 3 _ rfl, kc 4 _ rfl⟩
    have HW : Hid _ := And.intro (HV.out.1.bel hc) (And.intro (HV.out.2.1.bel hc) (And.intro (HV.out.2.2.2.1.bel hc) (And.intro (HV.out.2.2.2.2.1.bel hc) (HK.out.on hc).nd)))
    have H10 : Hid (Below w.heap.size w U) := H9.out.trans (hc.mono H9.out.size)
    clear HFS HC hU hc HV HK HB H9
    have HFS : Hid _ := f17
    clear f17
    have ee1 : (lo == lo) = true := by simp
    have ee2 : (lo + more == lo + more) = true := by simp
    have ew : IntKind.i64.wrap (lo + more) = lo + more := by rw [IntKind.wrap_i64]; omega
    go_upto_region 17 with fail
    have HC : Hid (Below U.heap.size U U.drew) := bdrewN (Below.refl _ _) 1
    go_region_held_law (fun X => (X.cell? ⟨w1.heap.size, 0, none⟩ = some (.int .i64 x0) ∧ X.cell? ⟨w1.heap.size, 1, none⟩ = some (.slice x1 x2 x3) ∧ X.cell? ⟨w1.heap.size, 2, none⟩ = some (.int .i64 x4) ∧ X.cell? ⟨w1.heap.size, 3, none⟩ = some (.int .i64 x5) ∧ X.cell? ⟨w1.heap.size, 4, none⟩ = some (.slice x6 x7 x8)) ∧ (X.cell? ⟨w2.heap.size, 0, none⟩ = some (.int .i64 y0) ∧ X.cell? ⟨w2.heap.size, 1, none⟩ = some (.slice y1 y2 y3) ∧ X.cell? ⟨w2.heap.size, 2, none⟩ = some (.int .i64 y4) ∧ X.cell? ⟨w2.heap.size, 3, none⟩ = some (.int .i64 y5) ∧ X.cell? ⟨w2.heap.size, 4, none⟩ = some (.slice y6 y7 y8)) ∧ (X.cell? ⟨w4.heap.size, 0, none⟩ = some (.int .i64 q0) ∧ X.cell? ⟨w4.heap.size, 1, none⟩ = some (.slice q1 q2 q3) ∧ X.cell? ⟨w4.heap.size, 2, none⟩ = some (.int .i64 q4) ∧ X.cell? ⟨w4.heap.size, 3, none⟩ = some (.int .i64 q5) ∧ X.cell? ⟨w4.heap.size, 4, none⟩ = some (.slice q6 q7 q8)) ∧ (X.cell? ⟨w5.heap.size, 0, none⟩ = some (.int .i64 r0) ∧ X.cell? ⟨w5.heap.size, 1, none⟩ = some (.slice r1 r2 r3) ∧ X.cell? ⟨w5.heap.size, 2, none⟩ = some (.int .i64 r4) ∧ X.cell? ⟨w5.heap.size, 3, none⟩ = some (.int .i64 r5) ∧ X.cell? ⟨w5.heap.size, 4, none⟩ = some (.slice r6 r7 r8)) ∧ (X.cell? ⟨w8.heap.size, 0, none⟩ = some (.int .i64 5) ∧ X.cell? ⟨w8.heap.size, 1, none⟩ = some (.slice z1 z2 z3) ∧ X.cell? ⟨w8.heap.size, 2, none⟩ = some (.int .i64 lo) ∧ X.cell? ⟨w8.heap.size, 3, none⟩ = some (.int .i64 (lo + more)) ∧ X.cell? ⟨w8.heap.size, 4, none⟩ = some (.slice (some ⟨gb, off, none⟩) 1 cap)) ∧ (X.cell? ⟨gb, off, none⟩ = some (.int .i64 k0) ∧ X.cell? ⟨gb, off + 1, none⟩ = some (.slice k1 k2 k3) ∧ X.cell? ⟨gb, off + 2, none⟩ = some (.int .i64 k4) ∧ X.cell? ⟨gb, off + 3, none⟩ = some (.int .i64 k5) ∧ X.cell? ⟨gb, off + 4, none⟩ = some (.slice k6 k7 k8))) (first | with_reducible exact HFS.out _ HC.out | fail)
      (first
        | (go_at_call 10; have hq := like_n gx gy (HW.out.2.2.1.bel HC.out) (HW.out.1.bel HC.out) (HW.out.2.1.bel HC.out); (with_reducible refine Calls.mono hq ?_); clear hq; rintro e w9 ⟨rfl, hb7⟩; have hc7 := HC.out.trans (hb7.mono HC.out.size); clear HC; have HC : Hid (Below U.heap.size U w9) := hc7; clear hc7 hb7)
        | (go_at_call 10; have hq := like_n gx gy (HW.out.2.2.2.1.bel HC.out) (HW.out.1.bel HC.out) (HW.out.2.1.bel HC.out); (with_reducible refine Calls.mono hq ?_); clear hq; rintro e w9 ⟨rfl, hb7⟩; have hc7 := HC.out.trans (hb7.mono HC.out.size); clear HC; have HC : Hid (Below U.heap.size U w9) := hc7; clear hc7 hb7)
        | (go_at_call 8; have hq := same_n gx HA1.out HA2.out; (with_reducible refine Calls.mono hq ?_); clear hq; rintro e w9 ⟨rfl, hb7⟩; have hc7 := HC.out.trans (hb7.mono HC.out.size); clear HC HA1 HA2; have HC : Hid (Below U.heap.size U w9) := hc7; clear hc7 hb7)
        | (go_at_call 9; have hq := of_n gx (HW.out.2.2.2.2.bel HC.out); (with_reducible refine Calls.mono hq ?_); clear hq; intro e w9 hq6; obtain ⟨a0, a1, a2, a3, a4, a5, a6, a7, a8, rfl, hr6, hb6⟩ := hq6.on; clear hq6; have hc6 := HC.out.trans (hb6.mono HC.out.size); clear HC; have HC : Hid (Below U.heap.size U w9) := hc6; have HA1 : Hid _ := hr6; clear hc6 hb6 hr6)
        | (go_at_call 9; have hq := of_n gx (HW.out.1.bel HC.out); (with_reducible refine Calls.mono hq ?_); clear hq; intro e w9 hq6; obtain ⟨c0, c1, c2, c3, c4, c5, c6, c7, c8, rfl, hr6, hb6⟩ := hq6.on; clear hq6; have hc6 := HC.out.trans (hb6.mono HC.out.size); have ha1 := HA1.out.bl2 hb6; clear HC HA1; have HC : Hid (Below U.heap.size U w9) := hc6; have HA1 : Hid _ := ha1; have HA2 : Hid _ := hr6; clear hc6 hb6 hr6 ha1)
        | fail)
    go_wp2_with fail
    go_ret
    exact ⟨rfl, H10.out.trans (HC.out.mono H10.out.size)⟩
end Go.Proofs.Ythlkbijpphdblaa
