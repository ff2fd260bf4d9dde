/- The program's byLines, put, Cmp. -/
import Derived.Test.YtijcbgjlofcdfaaPd2
namespace Go.Proofs.Ytijcbgjlofcdfaa
open Go.RowKit
set_option linter.unusedVariables false

theorem box2 (w : World) (A B : Obj) : ((w.alloc A).alloc B).heap[w.heap.size]? = some A ∧ ((w.alloc A).alloc B).heap[w.heap.size + 1]? = some B ∧ Below w.heap.size w ((w.alloc A).alloc B) := by
  have hA := nw_heap w A
  have hB := nw_heap (w.alloc A) B
  have b1 : Below (w.alloc A).heap.size (w.alloc A) ((w.alloc A).alloc B) := (Below.refl _ _).alloc (Nat.le_refl _) _
  rw [sza] at hB
  exact ⟨(b1.block _ (by simp)).trans hA, hB, ((Below.refl _ _).alloc (Nat.le_refl _) _).alloc (by simp) _⟩
/-- Bounds for a moment whose line is asked. -/
structure MoL (a : Mo) : Prop where
  b : MoB a
  n0 : 0 ≤ a.n
  n1 : a.n < 1000000000
  z0 : -1000000 < a.z
  z1 : a.z < 1000000
set_option maxHeartbeats 1000000 in
theorem byLines_p (a b : Mo) (w : World) (ha : MoL a) (hb : MoL b) : Calls Try.prog 41 #[moV a, moV b] w fun e w' => e = .returned (.int .i64 (ordS (linS a a.z) a.n (linS b b.z) b.n)) ∧ Below w.heap.size w w' := by
  have hlx := lex_ord (D := daysS a.y a.m a.d) (s := a.s - 60 * a.z) (E := daysS b.y b.m b.d) (t := b.s - 60 * b.z) ha.n0 ha.n1 hb.n0 hb.n1
  have e1 : ordS (linS a a.z) a.n (linS b b.z) b.n = ordS (86400 * daysS a.y a.m a.d + (a.s - 60 * a.z)) a.n (86400 * daysS b.y b.m b.d + (b.s - 60 * b.z)) b.n := by
    unfold linS
    rw [Int.add_sub_assoc, Int.add_sub_assoc]
  rw [e1, ← hlx]
  clear e1 hlx
  obtain ⟨x1, x2, hb0⟩ := box2 w (.cells (moC a) 24) (.cells (moC b) 24)
  have ql := fun W : World => line_p a W ha.b ha.z0 ha.z1
  have qr := fun W : World => line_p b W hb.b hb.z0 hb.z1
  have qc := compare3_p (daysS a.y a.m a.d + (a.s - 60 * a.z + a.n / 1000000000) / 86400) ((a.s - 60 * a.z + a.n / 1000000000) % 86400) (a.n % 1000000000) (daysS b.y b.m b.d + (b.s - 60 * b.z + b.n / 1000000000) / 86400) ((b.s - 60 * b.z + b.n / 1000000000) % 86400) (b.n % 1000000000)
  generalize daysS a.y a.m a.d + (a.s - 60 * a.z + a.n / 1000000000) / 86400 = A1 at *
  generalize (a.s - 60 * a.z + a.n / 1000000000) % 86400 = A2 at *
  generalize a.n % 1000000000 = A3 at *
  generalize daysS b.y b.m b.d + (b.s - 60 * b.z + b.n / 1000000000) / 86400 = B1 at *
  generalize (b.s - 60 * b.z + b.n / 1000000000) % 86400 = B2 at *
  generalize b.n % 1000000000 = B3 at *
  clear ha hb
  go_enter Try.func41, Try.ntmps41
  go_wp2_with fail
  generalize hU : ((w.alloc (.cells (moC a) 24)).alloc (.cells (moC b) 24)) = U at *
  clear hU
  have hkp : ∀ W, Below U.heap.size U W → (W.cell? ⟨w.heap.size, 0, none⟩ = some (.int .i64 a.k) ∧ W.cell? ⟨w.heap.size, 1, none⟩ = some (.int .i64 a.y) ∧ W.cell? ⟨w.heap.size, 2, none⟩ = some (.int .i64 a.m) ∧ W.cell? ⟨w.heap.size, 3, none⟩ = some (.int .i64 a.d) ∧ W.cell? ⟨w.heap.size, 4, none⟩ = some (.int .i64 a.s) ∧ W.cell? ⟨w.heap.size, 5, none⟩ = some (.int .i64 a.n) ∧ W.cell? ⟨w.heap.size, 6, none⟩ = some (.bool a.hz) ∧ W.cell? ⟨w.heap.size, 7, none⟩ = some (.int .i64 a.z) ∧ W.cell? ⟨w.heap.size + 1, 0, none⟩ = some (.int .i64 b.k) ∧ W.cell? ⟨w.heap.size + 1, 1, none⟩ = some (.int .i64 b.y) ∧ W.cell? ⟨w.heap.size + 1, 2, none⟩ = some (.int .i64 b.m) ∧ W.cell? ⟨w.heap.size + 1, 3, none⟩ = some (.int .i64 b.d) ∧ W.cell? ⟨w.heap.size + 1, 4, none⟩ = some (.int .i64 b.s) ∧ W.cell? ⟨w.heap.size + 1, 5, none⟩ = some (.int .i64 b.n) ∧ W.cell? ⟨w.heap.size + 1, 6, none⟩ = some (.bool b.hz) ∧ W.cell? ⟨w.heap.size + 1, 7, none⟩ = some (.int .i64 b.z)) := fun W hW => by
    obtain ⟨⟨g0, g1, g2, g3, g4, g5, g6, g7⟩, _⟩ := blk8 ((hW.block _ (lt_of x1)).trans x1)
    obtain ⟨⟨h0, h1, h2, h3, h4, h5, h6, h7⟩, _⟩ := blk8 ((hW.block _ (lt_of x2)).trans x2)
    exact ⟨g0, g1, g2, g3, g4, g5, g6, g7, h0, h1, h2, h3, h4, h5, h6, h7⟩
  obtain ⟨g0, g1, g2, g3, g4, g5, g6, g7, h0, h1, h2, h3, h4, h5, h6, h7⟩ := hkp U.drew (below_drewN 1)
  have HB : Hid (Below U.heap.size U U.drew) := below_drewN 1
  have HKP : Hid _ := hkp
  have HC : Hid _ := And.intro ql (And.intro qr (And.intro qc hb0))
  clear hkp x1 x2 hb0 ql qr qc
  go_region_held3 (fun W => W.cell? ⟨w.heap.size, 0, none⟩ = some (.int .i64 a.k) ∧ W.cell? ⟨w.heap.size, 1, none⟩ = some (.int .i64 a.y) ∧ W.cell? ⟨w.heap.size, 2, none⟩ = some (.int .i64 a.m) ∧ W.cell? ⟨w.heap.size, 3, none⟩ = some (.int .i64 a.d) ∧ W.cell? ⟨w.heap.size, 4, none⟩ = some (.int .i64 a.s) ∧ W.cell? ⟨w.heap.size, 5, none⟩ = some (.int .i64 a.n) ∧ W.cell? ⟨w.heap.size, 6, none⟩ = some (.bool a.hz) ∧ W.cell? ⟨w.heap.size, 7, none⟩ = some (.int .i64 a.z) ∧ W.cell? ⟨w.heap.size + 1, 0, none⟩ = some (.int .i64 b.k) ∧ W.cell? ⟨w.heap.size + 1, 1, none⟩ = some (.int .i64 b.y) ∧ W.cell? ⟨w.heap.size + 1, 2, none⟩ = some (.int .i64 b.m) ∧ W.cell? ⟨w.heap.size + 1, 3, none⟩ = some (.int .i64 b.d) ∧ W.cell? ⟨w.heap.size + 1, 4, none⟩ = some (.int .i64 b.s) ∧ W.cell? ⟨w.heap.size + 1, 5, none⟩ = some (.int .i64 b.n) ∧ W.cell? ⟨w.heap.size + 1, 6, none⟩ = some (.bool b.hz) ∧ W.cell? ⟨w.heap.size + 1, 7, none⟩ = some (.int .i64 b.z)) (first | exact ⟨g0, g1, g2, g3, g4, g5, g6, g7, h0, h1, h2, h3, h4, h5, h6, h7⟩ | fail) (first
    | (go_at_call 72; (with_reducible refine Calls.mono (HC.out.1 _) ?_); rintro e w1 ⟨b1, rfl, hx1, hb1⟩; have hbb := HB.out.trans (hb1.mono HB.out.size); clear HB g0 g1 g2 g3 g4 g5 g6 g7 h0 h1 h2 h3 h4 h5 h6 h7; obtain ⟨g0, g1, g2, g3, g4, g5, g6, g7, h0, h1, h2, h3, h4, h5, h6, h7⟩ := HKP.out _ hbb; have HB : Hid _ := hbb; have HX1 : Hid _ := hx1; clear hbb hb1 hx1)
    | (go_at_call 72; (with_reducible refine Calls.mono (HC.out.2.1 _) ?_); rintro e w2 ⟨b2, rfl, hx2, hb2⟩; have hbb := HB.out.trans (hb2.mono HB.out.size); clear HB g0 g1 g2 g3 g4 g5 g6 g7 h0 h1 h2 h3 h4 h5 h6 h7; obtain ⟨g0, g1, g2, g3, g4, g5, g6, g7, h0, h1, h2, h3, h4, h5, h6, h7⟩ := HKP.out _ hbb; have HB : Hid _ := hbb; have HX2 : Hid _ := And.intro hx2 ((hb2.block _ (lt_of HX1.out)).trans HX1.out); clear hbb hb2 hx2)
    | (go_at_call 71; (with_reducible refine Calls.mono (HC.out.2.2.1 _ _ _ HX2.out.2 HX2.out.1) ?_); rintro e w3 ⟨rfl, hw3⟩; subst hw3)
    | fail)
  all_goals
    go_wp2_with fail
    go_ret
    exact ⟨rfl, HC.out.2.2.2.trans (HB.out.mono HC.out.2.2.2.size)⟩
end Go.Proofs.Ytijcbgjlofcdfaa
