/- The second telling: CmpSpan. -/
import Derived.Test.YtgaegajcejpmdaaGreatDoorHDtQr3
import Derived.Test.YtgaegajcejpmdaaGreatDoorHDtQr2
namespace Go.Proofs.YtgaegajcejpmdaaGreatDoor.Dt
open Go.RowKit
set_option linter.unusedVariables false

structure CB (w U : World) (a b : Sp) : Prop where
  x1 : U.heap[w.heap.size]? = some (.cells (spC a) 45 (0, 0))
  x2 : U.heap[w.heap.size + 1]? = some (.cells (spC b) 45 (0, 0))
  x3 : U.heap[w.heap.size + 1 + 1]? = some (.cells #[.int .i64 1696, .int .i64 1697, .int .i64 1903, .int .i64 1903] 3 (0, 0))
  x4 : U.heap[w.heap.size + 1 + 1 + 1]? = some (.cells #[.int .i64 9, .int .i64 2, .int .i64 3, .int .i64 7] 3 (0, 0))
  hb : Below w.heap.size w U
theorem CB.below {w U U' : World} {a b : Sp} (h : CB w U a b) (hb : Below U.heap.size U U') : CB w U' a b :=
  ⟨(hb.block _ (lt_of h.x1)).trans h.x1, (hb.block _ (lt_of h.x2)).trans h.x2, (hb.block _ (lt_of h.x3)).trans h.x3, (hb.block _ (lt_of h.x4)).trans h.x4, h.hb.trans (hb.mono h.hb.size)⟩
theorem blk4 {U : World} {X : Nat} {a b c d : Value} {t : TypeId} (hx : U.heap[X]? = some (.cells #[a, b, c, d] t (0, 0))) : U.cell? ⟨X, 0, none⟩ = some a ∧ U.cell? ⟨X, 1, none⟩ = some b ∧ U.cell? ⟨X, 2, none⟩ = some c ∧ U.cell? ⟨X, 3, none⟩ = some d := by
  refine ⟨?_, ?_, ?_, ?_⟩ <;> simp [World.cell?, hx]
theorem CB.init (w : World) (a b : Sp) : CB w ((((w.alloc (.cells (spC a) 45)).alloc (.cells (spC b) 45)).alloc (.cells #[.int .i64 1696, .int .i64 1697, .int .i64 1903, .int .i64 1903] 3)).alloc (.cells #[.int .i64 9, .int .i64 2, .int .i64 3, .int .i64 7] 3)) a b := by
  obtain ⟨x1, x2, x3, hb⟩ := box3 w (.cells (spC a) 45) (.cells (spC b) 45) (.cells #[.int .i64 1696, .int .i64 1697, .int .i64 1903, .int .i64 1903] 3)
  have hs : (((w.alloc (.cells (spC a) 45)).alloc (.cells (spC b) 45)).alloc (.cells #[.int .i64 1696, .int .i64 1697, .int .i64 1903, .int .i64 1903] 3)).heap.size = w.heap.size + 3 := by simp
  generalize (((w.alloc (.cells (spC a) 45)).alloc (.cells (spC b) 45)).alloc (.cells #[.int .i64 1696, .int .i64 1697, .int .i64 1903, .int .i64 1903] 3)) = V at *
  have hn := nw_heap V (.cells #[.int .i64 9, .int .i64 2, .int .i64 3, .int .i64 7] 3)
  have hv : Below V.heap.size V (V.alloc (.cells #[.int .i64 9, .int .i64 2, .int .i64 3, .int .i64 7] 3)) := (Below.refl _ _).alloc (Nat.le_refl _) _
  rw [hs] at hn
  exact ⟨(hv.block _ (lt_of x1)).trans x1, (hv.block _ (lt_of x2)).trans x2, (hv.block _ (lt_of x3)).trans x3, hn, hb.trans (hv.mono hb.size)⟩
set_option maxHeartbeats 4000000 in
theorem cmpSpan_r (a b : Sp) (w : World) (ha : SpT a) (hb : SpT b) : Calls Tryz.prog 52 #[spV a, spV b] w fun e w' => e = .returned (.int .i64 (cmpP a b)) ∧ Below w.heap.size w w' := by
  have hr0 := ref_ok (y := 1696) (m := 9) (by omega) (by omega) (by omega)
  have p0 := fun W : World => add_r (refM 1696 9) a W (hr0.b (by simp only [refM]; omega) (by simp only [refM]; omega)) ha.b
  have q0 := fun W : World => add_r (refM 1696 9) b W (hr0.b (by simp only [refM]; omega) (by simp only [refM]; omega)) hb.b
  have r0 := fun W : World => cmp_r (addM (refM 1696 9) a) (addM (refM 1696 9) b) W (add_L hr0 (by simp only [refM]; omega) (by simp only [refM]; omega) (by simp [refM]) (by simp [refM]) ha) (add_L hr0 (by simp only [refM]; omega) (by simp only [refM]; omega) (by simp [refM]) (by simp [refM]) hb)
  have e0 : moV (refM 1696 9) = .agg #[.int .i64 1, .int .i64 1696, .int .i64 9, .int .i64 1, .int .i64 0, .int .i64 0, .bool false, .int .i64 0] := rfl
  rw [e0] at p0 q0
  clear e0
  have hr1 := ref_ok (y := 1697) (m := 2) (by omega) (by omega) (by omega)
  have p1 := fun W : World => add_r (refM 1697 2) a W (hr1.b (by simp only [refM]; omega) (by simp only [refM]; omega)) ha.b
  have q1 := fun W : World => add_r (refM 1697 2) b W (hr1.b (by simp only [refM]; omega) (by simp only [refM]; omega)) hb.b
  have r1 := fun W : World => cmp_r (addM (refM 1697 2) a) (addM (refM 1697 2) b) W (add_L hr1 (by simp only [refM]; omega) (by simp only [refM]; omega) (by simp [refM]) (by simp [refM]) ha) (add_L hr1 (by simp only [refM]; omega) (by simp only [refM]; omega) (by simp [refM]) (by simp [refM]) hb)
  have e1 : moV (refM 1697 2) = .agg #[.int .i64 1, .int .i64 1697, .int .i64 2, .int .i64 1, .int .i64 0, .int .i64 0, .bool false, .int .i64 0] := rfl
  rw [e1] at p1 q1
  clear e1
  have hr2 := ref_ok (y := 1903) (m := 3) (by omega) (by omega) (by omega)
  have p2 := fun W : World => add_r (refM 1903 3) a W (hr2.b (by simp only [refM]; omega) (by simp only [refM]; omega)) ha.b
  have q2 := fun W : World => add_r (refM 1903 3) b W (hr2.b (by simp only [refM]; omega) (by simp only [refM]; omega)) hb.b
  have r2 := fun W : World => cmp_r (addM (refM 1903 3) a) (addM (refM 1903 3) b) W (add_L hr2 (by simp only [refM]; omega) (by simp only [refM]; omega) (by simp [refM]) (by simp [refM]) ha) (add_L hr2 (by simp only [refM]; omega) (by simp only [refM]; omega) (by simp [refM]) (by simp [refM]) hb)
  have e2 : moV (refM 1903 3) = .agg #[.int .i64 1, .int .i64 1903, .int .i64 3, .int .i64 1, .int .i64 0, .int .i64 0, .bool false, .int .i64 0] := rfl
  rw [e2] at p2 q2
  clear e2
  have hr3 := ref_ok (y := 1903) (m := 7) (by omega) (by omega) (by omega)
  have p3 := fun W : World => add_r (refM 1903 7) a W (hr3.b (by simp only [refM]; omega) (by simp only [refM]; omega)) ha.b
  have q3 := fun W : World => add_r (refM 1903 7) b W (hr3.b (by simp only [refM]; omega) (by simp only [refM]; omega)) hb.b
  have r3 := fun W : World => cmp_r (addM (refM 1903 7) a) (addM (refM 1903 7) b) W (add_L hr3 (by simp only [refM]; omega) (by simp only [refM]; omega) (by simp [refM]) (by simp [refM]) ha) (add_L hr3 (by simp only [refM]; omega) (by simp only [refM]; omega) (by simp [refM]) (by simp [refM]) hb)
  have e3 : moV (refM 1903 7) = .agg #[.int .i64 1, .int .i64 1903, .int .i64 7, .int .i64 1, .int .i64 0, .int .i64 0, .bool false, .int .i64 0] := rfl
  rw [e3] at p3 q3
  clear e3
  have hE : cmpP a b = if cmpM (addM (refM 1696 9) a) (addM (refM 1696 9) b) = cmpM (addM (refM 1903 7) a) (addM (refM 1903 7) b) ∧ cmpM (addM (refM 1697 2) a) (addM (refM 1697 2) b) = cmpM (addM (refM 1903 7) a) (addM (refM 1903 7) b) ∧ cmpM (addM (refM 1903 3) a) (addM (refM 1903 3) b) = cmpM (addM (refM 1903 7) a) (addM (refM 1903 7) b) then cmpM (addM (refM 1903 7) a) (addM (refM 1903 7) b) else 2 := rfl
  rw [hE]
  clear hE
  generalize cmpM (addM (refM 1696 9) a) (addM (refM 1696 9) b) = R0 at *
  generalize addM (refM 1696 9) a = A0 at *
  generalize addM (refM 1696 9) b = B0 at *
  generalize cmpM (addM (refM 1697 2) a) (addM (refM 1697 2) b) = R1 at *
  generalize addM (refM 1697 2) a = A1 at *
  generalize addM (refM 1697 2) b = B1 at *
  generalize cmpM (addM (refM 1903 3) a) (addM (refM 1903 3) b) = R2 at *
  generalize addM (refM 1903 3) a = A2 at *
  generalize addM (refM 1903 3) b = B2 at *
  generalize cmpM (addM (refM 1903 7) a) (addM (refM 1903 7) b) = R3 at *
  generalize addM (refM 1903 7) a = A3 at *
  generalize addM (refM 1903 7) b = B3 at *
  obtain ⟨R, hR⟩ : ∃ R, (if R0 = R3 ∧ R1 = R3 ∧ R2 = R3 then R3 else 2) = R := ⟨_, rfl⟩
  rw [hR]
  have HR : Hid _ := hR
  have HC : Hid _ := And.intro (And.intro p0 (And.intro q0 r0)) (And.intro (And.intro p1 (And.intro q1 r1)) (And.intro (And.intro p2 (And.intro q2 r2)) (And.intro p3 (And.intro q3 r3))))
  clear hR p0 q0 r0 p1 q1 r1 p2 q2 r2 p3 q3 r3 hr0 hr1 hr2 hr3 ha hb
  have HI : Hid _ := CB.init w a b
  go_enter Tryz.func52, Tryz.ntmps52
  go_wp2_with fail
  go_loopg [7, 8] 4 (fun g v7 v8 wr => ∃ (i : Nat) (c : Int), i + g = 4 ∧ v8 = .int .i64 (i : Int) ∧ v7 = .int .i64 c ∧ (1 ≤ i → c = R0) ∧ (2 ≤ i → R1 = R0) ∧ (3 ≤ i → R2 = R0) ∧ (4 ≤ i → R3 = R0) ∧ CB w wr a b)
  case atStart => exact ⟨0, 0, rfl, rfl, rfl, fun h => absurd h (by omega), fun h => absurd h (by omega), fun h => absurd h (by omega), fun h => absurd h (by omega), HI.out⟩
  case round =>
    obtain ⟨i, c, hig, rfl, rfl, s1, s2, s3, s4, HA⟩ := hrel
    obtain rfl | rfl | rfl | rfl | rfl : i = 0 ∨ i = 1 ∨ i = 2 ∨ i = 3 ∨ i = 4 := by omega
    · obtain rfl : gk = 4 := by omega
      have HCR : Hid _ := HA
      have hal : Below wr.heap.size wr (wr.alloc (.cells #[.int .i64 0, .int .i64 0, .int .i64 0, .int .i64 0, .int .i64 0, .int .i64 0, .bool false, .int .i64 0] 44)) := (Below.refl _ _).alloc (Nat.le_refl _) _
      obtain ⟨y0, y1, y2, y3⟩ := blk4 HA.x3
      obtain ⟨m0, m1, m2, m3⟩ := blk4 HA.x4
      obtain ⟨yy0, yy1, yy2, yy3⟩ := blk4 ((hal.block _ (lt_of HA.x3)).trans HA.x3)
      obtain ⟨mm0, mm1, mm2, mm3⟩ := blk4 ((hal.block _ (lt_of HA.x4)).trans HA.x4)
      clear HA hal
      go_upto_region 7 with fail
      go_region
      obtain ⟨U, hU⟩ : ∃ V, (wr.alloc (.cells #[.int .i64 1, .int .i64 1696, .int .i64 9, .int .i64 1, .int .i64 0, .int .i64 0, .bool false, .int .i64 0] 44)).drew = V := ⟨_, rfl⟩
      rw [hU]
      have x9 : U.heap[wr.heap.size]? = some (.cells #[.int .i64 1, .int .i64 1696, .int .i64 9, .int .i64 1, .int .i64 0, .int .i64 0, .bool false, .int .i64 0] 44 (0, 0)) := by rw [← hU]; exact nw_heap _ _
      have hbU : Below wr.heap.size wr U := by rw [← hU]; exact bdrewN ((Below.refl _ _).alloc (Nat.le_refl _) _) 1
      have HCU : CB w U a b := HCR.out.below hbU
      clear hU y0 y1 y2 y3 m0 m1 m2 m3 yy0 yy1 yy2 yy3 mm0 mm1 mm2 mm3
      have hkp : ∀ W, Below U.heap.size U W → (W.cell? ⟨wr.heap.size, 0, none⟩ = some (.int .i64 1) ∧ W.cell? ⟨wr.heap.size, 1, none⟩ = some (.int .i64 1696) ∧ W.cell? ⟨wr.heap.size, 2, none⟩ = some (.int .i64 9) ∧ W.cell? ⟨wr.heap.size, 3, none⟩ = some (.int .i64 1) ∧ W.cell? ⟨wr.heap.size, 4, none⟩ = some (.int .i64 0) ∧ W.cell? ⟨wr.heap.size, 5, none⟩ = some (.int .i64 0) ∧ W.cell? ⟨wr.heap.size, 6, none⟩ = some (.bool false) ∧ W.cell? ⟨wr.heap.size, 7, none⟩ = some (.int .i64 0) ∧ W.cell? ⟨w.heap.size, 0, none⟩ = some (.int .i64 a.o) ∧ W.cell? ⟨w.heap.size, 1, none⟩ = some (.int .i64 a.s) ∧ W.cell? ⟨w.heap.size, 2, none⟩ = some (.int .i64 a.n) ∧ W.cell? ⟨w.heap.size + 1, 0, none⟩ = some (.int .i64 b.o) ∧ W.cell? ⟨w.heap.size + 1, 1, none⟩ = some (.int .i64 b.s) ∧ W.cell? ⟨w.heap.size + 1, 2, none⟩ = some (.int .i64 b.n)) := fun W hW => by
        obtain ⟨⟨g0, g1, g2, g3, g4, g5, g6, g7⟩, _⟩ := blk8 ((hW.block _ (lt_of x9)).trans x9)
        obtain ⟨h0, h1, h2⟩ := blk3 (HCU.below hW).x1
        obtain ⟨j0, j1, j2⟩ := blk3 (HCU.below hW).x2
        exact ⟨g0, g1, g2, g3, g4, g5, g6, g7, h0, h1, h2, j0, j1, j2⟩
      obtain ⟨g0, g1, g2, g3, g4, g5, g6, g7, h0, h1, h2, j0, j1, j2⟩ := hkp U.drew (below_drewN 1)
      have HB : Hid (Below U.heap.size U U.drew) := below_drewN 1
      have HKP : Hid _ := hkp
      have HCB : Hid _ := HCU
      clear hkp x9 HCU hbU
      go_wp2_with fail
      go_region_held3 (fun W => W.cell? ⟨wr.heap.size, 0, none⟩ = some (.int .i64 1) ∧ W.cell? ⟨wr.heap.size, 1, none⟩ = some (.int .i64 1696) ∧ W.cell? ⟨wr.heap.size, 2, none⟩ = some (.int .i64 9) ∧ W.cell? ⟨wr.heap.size, 3, none⟩ = some (.int .i64 1) ∧ W.cell? ⟨wr.heap.size, 4, none⟩ = some (.int .i64 0) ∧ W.cell? ⟨wr.heap.size, 5, none⟩ = some (.int .i64 0) ∧ W.cell? ⟨wr.heap.size, 6, none⟩ = some (.bool false) ∧ W.cell? ⟨wr.heap.size, 7, none⟩ = some (.int .i64 0) ∧ W.cell? ⟨w.heap.size, 0, none⟩ = some (.int .i64 a.o) ∧ W.cell? ⟨w.heap.size, 1, none⟩ = some (.int .i64 a.s) ∧ W.cell? ⟨w.heap.size, 2, none⟩ = some (.int .i64 a.n) ∧ W.cell? ⟨w.heap.size + 1, 0, none⟩ = some (.int .i64 b.o) ∧ W.cell? ⟨w.heap.size + 1, 1, none⟩ = some (.int .i64 b.s) ∧ W.cell? ⟨w.heap.size + 1, 2, none⟩ = some (.int .i64 b.n)) (first | exact ⟨g0, g1, g2, g3, g4, g5, g6, g7, h0, h1, h2, j0, j1, j2⟩ | fail) (first
        | (go_at_call 93; (with_reducible refine Calls.mono (HC.out.1.1 _) ?_); rintro e w1 ⟨rfl, hb1⟩; have hbb := HB.out.trans (hb1.mono HB.out.size); clear HB g0 g1 g2 g3 g4 g5 g6 g7 h0 h1 h2 j0 j1 j2; obtain ⟨g0, g1, g2, g3, g4, g5, g6, g7, h0, h1, h2, j0, j1, j2⟩ := HKP.out _ hbb; have HB : Hid _ := hbb; clear hbb hb1)
        | (go_at_call 93; (with_reducible refine Calls.mono (HC.out.1.2.1 _) ?_); rintro e w1 ⟨rfl, hb1⟩; have hbb := HB.out.trans (hb1.mono HB.out.size); clear HB g0 g1 g2 g3 g4 g5 g6 g7 h0 h1 h2 j0 j1 j2; obtain ⟨g0, g1, g2, g3, g4, g5, g6, g7, h0, h1, h2, j0, j1, j2⟩ := HKP.out _ hbb; have HB : Hid _ := hbb; clear hbb hb1)
        | (go_at_call 53; (with_reducible refine Calls.mono (HC.out.1.2.2 _) ?_); rintro e w1 ⟨rfl, hb1⟩; have hbb := HB.out.trans (hb1.mono HB.out.size); clear HB g0 g1 g2 g3 g4 g5 g6 g7 h0 h1 h2 j0 j1 j2; obtain ⟨g0, g1, g2, g3, g4, g5, g6, g7, h0, h1, h2, j0, j1, j2⟩ := HKP.out _ hbb; have HB : Hid _ := hbb; clear hbb hb1)
        | fail)
      all_goals
        go_wp2_with fail
        go_roundg 3
        case measure => omega
        case rel => exact ⟨1, R0, rfl, rfl, rfl, fun _ => rfl, fun h => absurd h (by omega), fun h => absurd h (by omega), fun h => absurd h (by omega), HCB.out.below HB.out⟩
    · obtain rfl : gk = 3 := by omega
      have HCR : Hid _ := HA
      have HS1 : Hid _ := And.intro s1 (And.intro s2 (And.intro s3 s4))
      clear s1 s2 s3 s4
      have hal : Below wr.heap.size wr (wr.alloc (.cells #[.int .i64 0, .int .i64 0, .int .i64 0, .int .i64 0, .int .i64 0, .int .i64 0, .bool false, .int .i64 0] 44)) := (Below.refl _ _).alloc (Nat.le_refl _) _
      obtain ⟨y0, y1, y2, y3⟩ := blk4 HA.x3
      obtain ⟨m0, m1, m2, m3⟩ := blk4 HA.x4
      obtain ⟨yy0, yy1, yy2, yy3⟩ := blk4 ((hal.block _ (lt_of HA.x3)).trans HA.x3)
      obtain ⟨mm0, mm1, mm2, mm3⟩ := blk4 ((hal.block _ (lt_of HA.x4)).trans HA.x4)
      clear HA hal
      go_upto_region 7 with fail
      go_region
      obtain ⟨U, hU⟩ : ∃ V, (wr.alloc (.cells #[.int .i64 1, .int .i64 1697, .int .i64 2, .int .i64 1, .int .i64 0, .int .i64 0, .bool false, .int .i64 0] 44)).drew = V := ⟨_, rfl⟩
      rw [hU]
      have x9 : U.heap[wr.heap.size]? = some (.cells #[.int .i64 1, .int .i64 1697, .int .i64 2, .int .i64 1, .int .i64 0, .int .i64 0, .bool false, .int .i64 0] 44 (0, 0)) := by rw [← hU]; exact nw_heap _ _
      have hbU : Below wr.heap.size wr U := by rw [← hU]; exact bdrewN ((Below.refl _ _).alloc (Nat.le_refl _) _) 1
      have HCU : CB w U a b := HCR.out.below hbU
      clear hU y0 y1 y2 y3 m0 m1 m2 m3 yy0 yy1 yy2 yy3 mm0 mm1 mm2 mm3
      have hkp : ∀ W, Below U.heap.size U W → (W.cell? ⟨wr.heap.size, 0, none⟩ = some (.int .i64 1) ∧ W.cell? ⟨wr.heap.size, 1, none⟩ = some (.int .i64 1697) ∧ W.cell? ⟨wr.heap.size, 2, none⟩ = some (.int .i64 2) ∧ W.cell? ⟨wr.heap.size, 3, none⟩ = some (.int .i64 1) ∧ W.cell? ⟨wr.heap.size, 4, none⟩ = some (.int .i64 0) ∧ W.cell? ⟨wr.heap.size, 5, none⟩ = some (.int .i64 0) ∧ W.cell? ⟨wr.heap.size, 6, none⟩ = some (.bool false) ∧ W.cell? ⟨wr.heap.size, 7, none⟩ = some (.int .i64 0) ∧ W.cell? ⟨w.heap.size, 0, none⟩ = some (.int .i64 a.o) ∧ W.cell? ⟨w.heap.size, 1, none⟩ = some (.int .i64 a.s) ∧ W.cell? ⟨w.heap.size, 2, none⟩ = some (.int .i64 a.n) ∧ W.cell? ⟨w.heap.size + 1, 0, none⟩ = some (.int .i64 b.o) ∧ W.cell? ⟨w.heap.size + 1, 1, none⟩ = some (.int .i64 b.s) ∧ W.cell? ⟨w.heap.size + 1, 2, none⟩ = some (.int .i64 b.n)) := fun W hW => by
        obtain ⟨⟨g0, g1, g2, g3, g4, g5, g6, g7⟩, _⟩ := blk8 ((hW.block _ (lt_of x9)).trans x9)
        obtain ⟨h0, h1, h2⟩ := blk3 (HCU.below hW).x1
        obtain ⟨j0, j1, j2⟩ := blk3 (HCU.below hW).x2
        exact ⟨g0, g1, g2, g3, g4, g5, g6, g7, h0, h1, h2, j0, j1, j2⟩
      obtain ⟨g0, g1, g2, g3, g4, g5, g6, g7, h0, h1, h2, j0, j1, j2⟩ := hkp U.drew (below_drewN 1)
      have HB : Hid (Below U.heap.size U U.drew) := below_drewN 1
      have HKP : Hid _ := hkp
      have HCB : Hid _ := HCU
      clear hkp x9 HCU hbU
      go_wp2_with fail
      go_region_held3 (fun W => W.cell? ⟨wr.heap.size, 0, none⟩ = some (.int .i64 1) ∧ W.cell? ⟨wr.heap.size, 1, none⟩ = some (.int .i64 1697) ∧ W.cell? ⟨wr.heap.size, 2, none⟩ = some (.int .i64 2) ∧ W.cell? ⟨wr.heap.size, 3, none⟩ = some (.int .i64 1) ∧ W.cell? ⟨wr.heap.size, 4, none⟩ = some (.int .i64 0) ∧ W.cell? ⟨wr.heap.size, 5, none⟩ = some (.int .i64 0) ∧ W.cell? ⟨wr.heap.size, 6, none⟩ = some (.bool false) ∧ W.cell? ⟨wr.heap.size, 7, none⟩ = some (.int .i64 0) ∧ W.cell? ⟨w.heap.size, 0, none⟩ = some (.int .i64 a.o) ∧ W.cell? ⟨w.heap.size, 1, none⟩ = some (.int .i64 a.s) ∧ W.cell? ⟨w.heap.size, 2, none⟩ = some (.int .i64 a.n) ∧ W.cell? ⟨w.heap.size + 1, 0, none⟩ = some (.int .i64 b.o) ∧ W.cell? ⟨w.heap.size + 1, 1, none⟩ = some (.int .i64 b.s) ∧ W.cell? ⟨w.heap.size + 1, 2, none⟩ = some (.int .i64 b.n)) (first | exact ⟨g0, g1, g2, g3, g4, g5, g6, g7, h0, h1, h2, j0, j1, j2⟩ | fail) (first
        | (go_at_call 93; (with_reducible refine Calls.mono (HC.out.2.1.1 _) ?_); rintro e w1 ⟨rfl, hb1⟩; have hbb := HB.out.trans (hb1.mono HB.out.size); clear HB g0 g1 g2 g3 g4 g5 g6 g7 h0 h1 h2 j0 j1 j2; obtain ⟨g0, g1, g2, g3, g4, g5, g6, g7, h0, h1, h2, j0, j1, j2⟩ := HKP.out _ hbb; have HB : Hid _ := hbb; clear hbb hb1)
        | (go_at_call 93; (with_reducible refine Calls.mono (HC.out.2.1.2.1 _) ?_); rintro e w1 ⟨rfl, hb1⟩; have hbb := HB.out.trans (hb1.mono HB.out.size); clear HB g0 g1 g2 g3 g4 g5 g6 g7 h0 h1 h2 j0 j1 j2; obtain ⟨g0, g1, g2, g3, g4, g5, g6, g7, h0, h1, h2, j0, j1, j2⟩ := HKP.out _ hbb; have HB : Hid _ := hbb; clear hbb hb1)
        | (go_at_call 53; (with_reducible refine Calls.mono (HC.out.2.1.2.2 _) ?_); rintro e w1 ⟨rfl, hb1⟩; have hbb := HB.out.trans (hb1.mono HB.out.size); clear HB g0 g1 g2 g3 g4 g5 g6 g7 h0 h1 h2 j0 j1 j2; obtain ⟨g0, g1, g2, g3, g4, g5, g6, g7, h0, h1, h2, j0, j1, j2⟩ := HKP.out _ hbb; have HB : Hid _ := hbb; clear hbb hb1)
        | fail)
      all_goals
        by_cases hq : R1 = c
        · have k1 : (R1 != c) = false := by simpa using hq
          have HQ : Hid _ := hq
          clear hq
          go_wp2_with fail
          go_roundg 2
          case measure => omega
          case rel =>
            have hq := HQ.out
            exact ⟨2, R1, rfl, rfl, rfl, fun _ => hq.trans (HS1.out.1 (by omega)), fun _ => hq.trans (HS1.out.1 (by omega)), fun h => absurd h (by omega), fun h => absurd h (by omega), HCB.out.below HB.out⟩
        · have k1 : (R1 != c) = true := by simpa using hq
          have hR2 : R = 2 := by
            have hc := HS1.out.1 (by omega)
            rw [← HR.out, if_neg (by rintro ⟨e1, e2, e3⟩; omega)]
          have HQ : Hid _ := hR2
          clear hq hR2
          go_wp2_with fail
          go_ret
          exact ⟨ret_int HQ.out.symm, (HCB.out.below HB.out).hb⟩
    · obtain rfl : gk = 2 := by omega
      have HCR : Hid _ := HA
      have HS1 : Hid _ := And.intro s1 (And.intro s2 (And.intro s3 s4))
      clear s1 s2 s3 s4
      have hal : Below wr.heap.size wr (wr.alloc (.cells #[.int .i64 0, .int .i64 0, .int .i64 0, .int .i64 0, .int .i64 0, .int .i64 0, .bool false, .int .i64 0] 44)) := (Below.refl _ _).alloc (Nat.le_refl _) _
      obtain ⟨y0, y1, y2, y3⟩ := blk4 HA.x3
      obtain ⟨m0, m1, m2, m3⟩ := blk4 HA.x4
      obtain ⟨yy0, yy1, yy2, yy3⟩ := blk4 ((hal.block _ (lt_of HA.x3)).trans HA.x3)
      obtain ⟨mm0, mm1, mm2, mm3⟩ := blk4 ((hal.block _ (lt_of HA.x4)).trans HA.x4)
      clear HA hal
      go_upto_region 7 with fail
      go_region
      obtain ⟨U, hU⟩ : ∃ V, (wr.alloc (.cells #[.int .i64 1, .int .i64 1903, .int .i64 3, .int .i64 1, .int .i64 0, .int .i64 0, .bool false, .int .i64 0] 44)).drew = V := ⟨_, rfl⟩
      rw [hU]
      have x9 : U.heap[wr.heap.size]? = some (.cells #[.int .i64 1, .int .i64 1903, .int .i64 3, .int .i64 1, .int .i64 0, .int .i64 0, .bool false, .int .i64 0] 44 (0, 0)) := by rw [← hU]; exact nw_heap _ _
      have hbU : Below wr.heap.size wr U := by rw [← hU]; exact bdrewN ((Below.refl _ _).alloc (Nat.le_refl _) _) 1
      have HCU : CB w U a b := HCR.out.below hbU
      clear hU y0 y1 y2 y3 m0 m1 m2 m3 yy0 yy1 yy2 yy3 mm0 mm1 mm2 mm3
      have hkp : ∀ W, Below U.heap.size U W → (W.cell? ⟨wr.heap.size, 0, none⟩ = some (.int .i64 1) ∧ W.cell? ⟨wr.heap.size, 1, none⟩ = some (.int .i64 1903) ∧ W.cell? ⟨wr.heap.size, 2, none⟩ = some (.int .i64 3) ∧ W.cell? ⟨wr.heap.size, 3, none⟩ = some (.int .i64 1) ∧ W.cell? ⟨wr.heap.size, 4, none⟩ = some (.int .i64 0) ∧ W.cell? ⟨wr.heap.size, 5, none⟩ = some (.int .i64 0) ∧ W.cell? ⟨wr.heap.size, 6, none⟩ = some (.bool false) ∧ W.cell? ⟨wr.heap.size, 7, none⟩ = some (.int .i64 0) ∧ W.cell? ⟨w.heap.size, 0, none⟩ = some (.int .i64 a.o) ∧ W.cell? ⟨w.heap.size, 1, none⟩ = some (.int .i64 a.s) ∧ W.cell? ⟨w.heap.size, 2, none⟩ = some (.int .i64 a.n) ∧ W.cell? ⟨w.heap.size + 1, 0, none⟩ = some (.int .i64 b.o) ∧ W.cell? ⟨w.heap.size + 1, 1, none⟩ = some (.int .i64 b.s) ∧ W.cell? ⟨w.heap.size + 1, 2, none⟩ = some (.int .i64 b.n)) := fun W hW => by
        obtain ⟨⟨g0, g1, g2, g3, g4, g5, g6, g7⟩, _⟩ := blk8 ((hW.block _ (lt_of x9)).trans x9)
        obtain ⟨h0, h1, h2⟩ := blk3 (HCU.below hW).x1
        obtain ⟨j0, j1, j2⟩ := blk3 (HCU.below hW).x2
        exact ⟨g0, g1, g2, g3, g4, g5, g6, g7, h0, h1, h2, j0, j1, j2⟩
      obtain ⟨g0, g1, g2, g3, g4, g5, g6, g7, h0, h1, h2, j0, j1, j2⟩ := hkp U.drew (below_drewN 1)
      have HB : Hid (Below U.heap.size U U.drew) := below_drewN 1
      have HKP : Hid _ := hkp
      have HCB : Hid _ := HCU
      clear hkp x9 HCU hbU
      go_wp2_with fail
      go_region_held3 (fun W => W.cell? ⟨wr.heap.size, 0, none⟩ = some (.int .i64 1) ∧ W.cell? ⟨wr.heap.size, 1, none⟩ = some (.int .i64 1903) ∧ W.cell? ⟨wr.heap.size, 2, none⟩ = some (.int .i64 3) ∧ W.cell? ⟨wr.heap.size, 3, none⟩ = some (.int .i64 1) ∧ W.cell? ⟨wr.heap.size, 4, none⟩ = some (.int .i64 0) ∧ W.cell? ⟨wr.heap.size, 5, none⟩ = some (.int .i64 0) ∧ W.cell? ⟨wr.heap.size, 6, none⟩ = some (.bool false) ∧ W.cell? ⟨wr.heap.size, 7, none⟩ = some (.int .i64 0) ∧ W.cell? ⟨w.heap.size, 0, none⟩ = some (.int .i64 a.o) ∧ W.cell? ⟨w.heap.size, 1, none⟩ = some (.int .i64 a.s) ∧ W.cell? ⟨w.heap.size, 2, none⟩ = some (.int .i64 a.n) ∧ W.cell? ⟨w.heap.size + 1, 0, none⟩ = some (.int .i64 b.o) ∧ W.cell? ⟨w.heap.size + 1, 1, none⟩ = some (.int .i64 b.s) ∧ W.cell? ⟨w.heap.size + 1, 2, none⟩ = some (.int .i64 b.n)) (first | exact ⟨g0, g1, g2, g3, g4, g5, g6, g7, h0, h1, h2, j0, j1, j2⟩ | fail) (first
        | (go_at_call 93; (with_reducible refine Calls.mono (HC.out.2.2.1.1 _) ?_); rintro e w1 ⟨rfl, hb1⟩; have hbb := HB.out.trans (hb1.mono HB.out.size); clear HB g0 g1 g2 g3 g4 g5 g6 g7 h0 h1 h2 j0 j1 j2; obtain ⟨g0, g1, g2, g3, g4, g5, g6, g7, h0, h1, h2, j0, j1, j2⟩ := HKP.out _ hbb; have HB : Hid _ := hbb; clear hbb hb1)
        | (go_at_call 93; (with_reducible refine Calls.mono (HC.out.2.2.1.2.1 _) ?_); rintro e w1 ⟨rfl, hb1⟩; have hbb := HB.out.trans (hb1.mono HB.out.size); clear HB g0 g1 g2 g3 g4 g5 g6 g7 h0 h1 h2 j0 j1 j2; obtain ⟨g0, g1, g2, g3, g4, g5, g6, g7, h0, h1, h2, j0, j1, j2⟩ := HKP.out _ hbb; have HB : Hid _ := hbb; clear hbb hb1)
        | (go_at_call 53; (with_reducible refine Calls.mono (HC.out.2.2.1.2.2 _) ?_); rintro e w1 ⟨rfl, hb1⟩; have hbb := HB.out.trans (hb1.mono HB.out.size); clear HB g0 g1 g2 g3 g4 g5 g6 g7 h0 h1 h2 j0 j1 j2; obtain ⟨g0, g1, g2, g3, g4, g5, g6, g7, h0, h1, h2, j0, j1, j2⟩ := HKP.out _ hbb; have HB : Hid _ := hbb; clear hbb hb1)
        | fail)
      all_goals
        by_cases hq : R2 = c
        · have k1 : (R2 != c) = false := by simpa using hq
          have HQ : Hid _ := hq
          clear hq
          go_wp2_with fail
          go_roundg 1
          case measure => omega
          case rel =>
            have hq := HQ.out
            exact ⟨3, R2, rfl, rfl, rfl, fun _ => hq.trans (HS1.out.1 (by omega)), fun _ => HS1.out.2.1 (by omega), fun _ => hq.trans (HS1.out.1 (by omega)), fun h => absurd h (by omega), HCB.out.below HB.out⟩
        · have k1 : (R2 != c) = true := by simpa using hq
          have hR2 : R = 2 := by
            have hc := HS1.out.1 (by omega)
            rw [← HR.out, if_neg (by rintro ⟨e1, e2, e3⟩; omega)]
          have HQ : Hid _ := hR2
          clear hq hR2
          go_wp2_with fail
          go_ret
          exact ⟨ret_int HQ.out.symm, (HCB.out.below HB.out).hb⟩
    · obtain rfl : gk = 1 := by omega
      have HCR : Hid _ := HA
      have HS1 : Hid _ := And.intro s1 (And.intro s2 (And.intro s3 s4))
      clear s1 s2 s3 s4
      have hal : Below wr.heap.size wr (wr.alloc (.cells #[.int .i64 0, .int .i64 0, .int .i64 0, .int .i64 0, .int .i64 0, .int .i64 0, .bool false, .int .i64 0] 44)) := (Below.refl _ _).alloc (Nat.le_refl _) _
      obtain ⟨y0, y1, y2, y3⟩ := blk4 HA.x3
      obtain ⟨m0, m1, m2, m3⟩ := blk4 HA.x4
      obtain ⟨yy0, yy1, yy2, yy3⟩ := blk4 ((hal.block _ (lt_of HA.x3)).trans HA.x3)
      obtain ⟨mm0, mm1, mm2, mm3⟩ := blk4 ((hal.block _ (lt_of HA.x4)).trans HA.x4)
      clear HA hal
      go_upto_region 7 with fail
      go_region
      obtain ⟨U, hU⟩ : ∃ V, (wr.alloc (.cells #[.int .i64 1, .int .i64 1903, .int .i64 7, .int .i64 1, .int .i64 0, .int .i64 0, .bool false, .int .i64 0] 44)).drew = V := ⟨_, rfl⟩
      rw [hU]
      have x9 : U.heap[wr.heap.size]? = some (.cells #[.int .i64 1, .int .i64 1903, .int .i64 7, .int .i64 1, .int .i64 0, .int .i64 0, .bool false, .int .i64 0] 44 (0, 0)) := by rw [← hU]; exact nw_heap _ _
      have hbU : Below wr.heap.size wr U := by rw [← hU]; exact bdrewN ((Below.refl _ _).alloc (Nat.le_refl _) _) 1
      have HCU : CB w U a b := HCR.out.below hbU
      clear hU y0 y1 y2 y3 m0 m1 m2 m3 yy0 yy1 yy2 yy3 mm0 mm1 mm2 mm3
      have hkp : ∀ W, Below U.heap.size U W → (W.cell? ⟨wr.heap.size, 0, none⟩ = some (.int .i64 1) ∧ W.cell? ⟨wr.heap.size, 1, none⟩ = some (.int .i64 1903) ∧ W.cell? ⟨wr.heap.size, 2, none⟩ = some (.int .i64 7) ∧ W.cell? ⟨wr.heap.size, 3, none⟩ = some (.int .i64 1) ∧ W.cell? ⟨wr.heap.size, 4, none⟩ = some (.int .i64 0) ∧ W.cell? ⟨wr.heap.size, 5, none⟩ = some (.int .i64 0) ∧ W.cell? ⟨wr.heap.size, 6, none⟩ = some (.bool false) ∧ W.cell? ⟨wr.heap.size, 7, none⟩ = some (.int .i64 0) ∧ W.cell? ⟨w.heap.size, 0, none⟩ = some (.int .i64 a.o) ∧ W.cell? ⟨w.heap.size, 1, none⟩ = some (.int .i64 a.s) ∧ W.cell? ⟨w.heap.size, 2, none⟩ = some (.int .i64 a.n) ∧ W.cell? ⟨w.heap.size + 1, 0, none⟩ = some (.int .i64 b.o) ∧ W.cell? ⟨w.heap.size + 1, 1, none⟩ = some (.int .i64 b.s) ∧ W.cell? ⟨w.heap.size + 1, 2, none⟩ = some (.int .i64 b.n)) := fun W hW => by
        obtain ⟨⟨g0, g1, g2, g3, g4, g5, g6, g7⟩, _⟩ := blk8 ((hW.block _ (lt_of x9)).trans x9)
        obtain ⟨h0, h1, h2⟩ := blk3 (HCU.below hW).x1
        obtain ⟨j0, j1, j2⟩ := blk3 (HCU.below hW).x2
        exact ⟨g0, g1, g2, g3, g4, g5, g6, g7, h0, h1, h2, j0, j1, j2⟩
      obtain ⟨g0, g1, g2, g3, g4, g5, g6, g7, h0, h1, h2, j0, j1, j2⟩ := hkp U.drew (below_drewN 1)
      have HB : Hid (Below U.heap.size U U.drew) := below_drewN 1
      have HKP : Hid _ := hkp
      have HCB : Hid _ := HCU
      clear hkp x9 HCU hbU
      go_wp2_with fail
      go_region_held3 (fun W => W.cell? ⟨wr.heap.size, 0, none⟩ = some (.int .i64 1) ∧ W.cell? ⟨wr.heap.size, 1, none⟩ = some (.int .i64 1903) ∧ W.cell? ⟨wr.heap.size, 2, none⟩ = some (.int .i64 7) ∧ W.cell? ⟨wr.heap.size, 3, none⟩ = some (.int .i64 1) ∧ W.cell? ⟨wr.heap.size, 4, none⟩ = some (.int .i64 0) ∧ W.cell? ⟨wr.heap.size, 5, none⟩ = some (.int .i64 0) ∧ W.cell? ⟨wr.heap.size, 6, none⟩ = some (.bool false) ∧ W.cell? ⟨wr.heap.size, 7, none⟩ = some (.int .i64 0) ∧ W.cell? ⟨w.heap.size, 0, none⟩ = some (.int .i64 a.o) ∧ W.cell? ⟨w.heap.size, 1, none⟩ = some (.int .i64 a.s) ∧ W.cell? ⟨w.heap.size, 2, none⟩ = some (.int .i64 a.n) ∧ W.cell? ⟨w.heap.size + 1, 0, none⟩ = some (.int .i64 b.o) ∧ W.cell? ⟨w.heap.size + 1, 1, none⟩ = some (.int .i64 b.s) ∧ W.cell? ⟨w.heap.size + 1, 2, none⟩ = some (.int .i64 b.n)) (first | exact ⟨g0, g1, g2, g3, g4, g5, g6, g7, h0, h1, h2, j0, j1, j2⟩ | fail) (first
        | (go_at_call 93; (with_reducible refine Calls.mono (HC.out.2.2.2.1 _) ?_); rintro e w1 ⟨rfl, hb1⟩; have hbb := HB.out.trans (hb1.mono HB.out.size); clear HB g0 g1 g2 g3 g4 g5 g6 g7 h0 h1 h2 j0 j1 j2; obtain ⟨g0, g1, g2, g3, g4, g5, g6, g7, h0, h1, h2, j0, j1, j2⟩ := HKP.out _ hbb; have HB : Hid _ := hbb; clear hbb hb1)
        | (go_at_call 93; (with_reducible refine Calls.mono (HC.out.2.2.2.2.1 _) ?_); rintro e w1 ⟨rfl, hb1⟩; have hbb := HB.out.trans (hb1.mono HB.out.size); clear HB g0 g1 g2 g3 g4 g5 g6 g7 h0 h1 h2 j0 j1 j2; obtain ⟨g0, g1, g2, g3, g4, g5, g6, g7, h0, h1, h2, j0, j1, j2⟩ := HKP.out _ hbb; have HB : Hid _ := hbb; clear hbb hb1)
        | (go_at_call 53; (with_reducible refine Calls.mono (HC.out.2.2.2.2.2 _) ?_); rintro e w1 ⟨rfl, hb1⟩; have hbb := HB.out.trans (hb1.mono HB.out.size); clear HB g0 g1 g2 g3 g4 g5 g6 g7 h0 h1 h2 j0 j1 j2; obtain ⟨g0, g1, g2, g3, g4, g5, g6, g7, h0, h1, h2, j0, j1, j2⟩ := HKP.out _ hbb; have HB : Hid _ := hbb; clear hbb hb1)
        | fail)
      all_goals
        by_cases hq : R3 = c
        · have k1 : (R3 != c) = false := by simpa using hq
          have HQ : Hid _ := hq
          clear hq
          go_wp2_with fail
          go_roundg 0
          case measure => omega
          case rel =>
            have hq := HQ.out
            exact ⟨4, R3, rfl, rfl, rfl, fun _ => hq.trans (HS1.out.1 (by omega)), fun _ => HS1.out.2.1 (by omega), fun _ => HS1.out.2.2.1 (by omega), fun _ => hq.trans (HS1.out.1 (by omega)), HCB.out.below HB.out⟩
        · have k1 : (R3 != c) = true := by simpa using hq
          have hR2 : R = 2 := by
            have hc := HS1.out.1 (by omega)
            rw [← HR.out, if_neg (by rintro ⟨e1, e2, e3⟩; omega)]
          have HQ : Hid _ := hR2
          clear hq hR2
          go_wp2_with fail
          go_ret
          exact ⟨ret_int HQ.out.symm, (HCB.out.below HB.out).hb⟩
    · have hc : c = R := by
        rw [s1 (by omega), ← HR.out, if_pos ⟨(s4 (by omega)).symm, (s2 (by omega)).trans (s4 (by omega)).symm, (s3 (by omega)).trans (s4 (by omega)).symm⟩]
        exact (s4 (by omega)).symm
      have HH : Hid _ := And.intro hc HA.hb
      clear s1 s2 s3 s4 hc HA
      go_wp2_with fail
      go_ret
      exact ⟨ret_int HH.out.1, HH.out.2⟩
end Go.Proofs.YtgaegajcejpmdaaGreatDoor.Dt
