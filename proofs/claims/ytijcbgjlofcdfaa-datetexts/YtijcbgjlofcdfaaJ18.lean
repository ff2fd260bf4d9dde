/- Joined: Pd2, Pd3. -/
import Derived.Test.YtijcbgjlofcdfaaPd1
import Derived.LoopN
namespace Go.Proofs.Ytijcbgjlofcdfaa
open Go.RowKit
set_option linter.unusedVariables false

def cmpI (a b : Int) : Int := if a < b then -1 else if b < a then 1 else 0
def lex3 (a b c x y z : Int) : Int := if cmpI a x ≠ 0 then cmpI a x else if cmpI b y ≠ 0 then cmpI b y else cmpI c z
theorem nan_p (a : Int) (w : World) : Calls Try.prog 91 #[.int .i64 a] w fun e w' => e = .returned (.bool false) ∧ w' = w := by
  go_enter Try.func91, Try.ntmps91
  go_wp2_with fail
  go_ret
  exact ⟨ret_bool (by simp), rfl⟩
theorem compare_p (a b : Int) (w : World) : Calls Try.prog 87 #[.int .i64 a, .int .i64 b] w fun e w' => e = .returned (.int .i64 (cmpI a b)) ∧ w' = w := by
  unfold cmpI
  by_cases h : a < b
  · rw [if_pos h]
    go_enter Try.func87, Try.ntmps87
    go_wp2_with (first | (go_at_call 91; refine Calls.mono (nan_p _ _) ?_; rintro e w' ⟨rfl, rfl⟩))
    go_ret
    exact ⟨rfl, rfl⟩
  · rw [if_neg h]
    by_cases h' : b < a
    · rw [if_pos h']
      go_enter Try.func87, Try.ntmps87
      go_wp2_with (first | (go_at_call 91; refine Calls.mono (nan_p _ _) ?_; rintro e w' ⟨rfl, rfl⟩))
      go_ret
      exact ⟨rfl, rfl⟩
    · rw [if_neg h']
      go_enter Try.func87, Try.ntmps87
      go_wp2_with (first | (go_at_call 91; refine Calls.mono (nan_p _ _) ?_; rintro e w' ⟨rfl, rfl⟩))
      go_ret
      exact ⟨rfl, rfl⟩
set_option maxHeartbeats 400000 in
theorem compare3_p (a b c x y z : Int) (A B : Nat) (w : World) (hA : w.heap[A]? = some (.cells #[.int .i64 a, .int .i64 b, .int .i64 c] 3 (0, 0))) (hB : w.heap[B]? = some (.cells #[.int .i64 x, .int .i64 y, .int .i64 z] 3 (0, 0))) :
    Calls Try.prog 71 #[.slice (some ⟨A, 0, none⟩) 3 3, .slice (some ⟨B, 0, none⟩) 3 3] w fun e w' => e = .returned (.int .i64 (lex3 a b c x y z)) ∧ w' = w := by
  obtain ⟨a0, a1, a2⟩ := blk3 hA
  obtain ⟨b0, b1, b2⟩ := blk3 hB
  have HC : Hid _ := And.intro (compare_p a x w) (And.intro (compare_p b y w) (compare_p c z w))
  clear hA hB
  unfold lex3
  generalize cmpI a x = r1 at *
  generalize cmpI b y = r2 at *
  generalize cmpI c z = r3 at *
  by_cases h1 : r1 = 0
  · subst h1
    rw [if_neg (by simp)]
    by_cases h2 : r2 = 0
    · subst h2
      rw [if_neg (by simp)]
      by_cases h3 : r3 = 0
      · subst h3
        go_enter Try.func71, Try.ntmps71
        go_wp2_with fail
        refine wp_loop_rounds 4 ?_
        rw [rounds_succ]
        go_wp2_with (first | (go_at_call 87; with_reducible refine Calls.mono HC.out.1 ?_; rintro e w' ⟨rfl, rfl⟩))
        rw [rounds_succ]
        go_wp2_with (first | (go_at_call 87; with_reducible refine Calls.mono HC.out.2.1 ?_; rintro e w' ⟨rfl, rfl⟩))
        rw [rounds_succ]
        go_wp2_with (first | (go_at_call 87; with_reducible refine Calls.mono HC.out.2.2 ?_; rintro e w' ⟨rfl, rfl⟩))
        rw [rounds_succ]
        go_wp2_with fail
        go_ret
        exact ⟨rfl, rfl⟩
      · have h3' : (r3 != 0) = true := by simpa using h3
        go_enter Try.func71, Try.ntmps71
        go_wp2_with fail
        refine wp_loop_rounds 4 ?_
        rw [rounds_succ]
        go_wp2_with (first | (go_at_call 87; with_reducible refine Calls.mono HC.out.1 ?_; rintro e w' ⟨rfl, rfl⟩))
        rw [rounds_succ]
        go_wp2_with (first | (go_at_call 87; with_reducible refine Calls.mono HC.out.2.1 ?_; rintro e w' ⟨rfl, rfl⟩))
        rw [rounds_succ]
        go_wp2_with (first | (go_at_call 87; with_reducible refine Calls.mono HC.out.2.2 ?_; rintro e w' ⟨rfl, rfl⟩))
        go_ret
        exact ⟨rfl, rfl⟩
    · rw [if_pos h2]
      have h2' : (r2 != 0) = true := by simpa using h2
      go_enter Try.func71, Try.ntmps71
      go_wp2_with fail
      refine wp_loop_rounds 3 ?_
      rw [rounds_succ]
      go_wp2_with (first | (go_at_call 87; with_reducible refine Calls.mono HC.out.1 ?_; rintro e w' ⟨rfl, rfl⟩))
      rw [rounds_succ]
      go_wp2_with (first | (go_at_call 87; with_reducible refine Calls.mono HC.out.2.1 ?_; rintro e w' ⟨rfl, rfl⟩))
      go_ret
      exact ⟨rfl, rfl⟩
  · rw [if_pos h1]
    have h1' : (r1 != 0) = true := by simpa using h1
    go_enter Try.func71, Try.ntmps71
    go_wp2_with fail
    refine wp_loop_rounds 2 ?_
    rw [rounds_succ]
    go_wp2_with (first | (go_at_call 87; with_reducible refine Calls.mono HC.out.1 ?_; rintro e w' ⟨rfl, rfl⟩))
    go_ret
    exact ⟨rfl, rfl⟩
/-- A moment's line: its days, its seconds, its nanoseconds. -/
theorem lex_ord {D s n E t m : Int} (hn0 : 0 ≤ n) (hn1 : n < 1000000000) (hm0 : 0 ≤ m) (hm1 : m < 1000000000) :
    lex3 (D + (s + n / 1000000000) / 86400) ((s + n / 1000000000) % 86400) (n % 1000000000) (E + (t + m / 1000000000) / 86400) ((t + m / 1000000000) % 86400) (m % 1000000000) = ordS (86400 * D + s) n (86400 * E + t) m := by
  unfold lex3 cmpI ordS
  rw [show n / 1000000000 = 0 by omega, show m / 1000000000 = 0 by omega, show n % 1000000000 = n by omega, show m % 1000000000 = m by omega, Int.add_zero, Int.add_zero]
  repeat' split
  all_goals omega
set_option maxHeartbeats 400000 in
theorem line_p (a : Mo) (w : World) (ha : MoB a) (hz0 : -1000000 < a.z) (hz1 : a.z < 1000000) : Calls Try.prog 72 #[moV a] w fun e w' => ∃ b, e = .returned (.slice (some ⟨b, 0, none⟩) 3 3) ∧ w'.heap[b]? = some (.cells #[.int .i64 (daysS a.y a.m a.d + (a.s - 60 * a.z + a.n / 1000000000) / 86400), .int .i64 ((a.s - 60 * a.z + a.n / 1000000000) % 86400), .int .i64 (a.n % 1000000000)] 3 (0, 0)) ∧ Below w.heap.size w w' := by
  obtain ⟨k, y, m, d, s, n, hz, z⟩ := a
  obtain ⟨y0, y1, m0, m1, d0, d1, s0, s1, n0, n1⟩ := ha
  dsimp only at *
  have c1 := fun W : World => carry_p n 1000000000 W (by omega) (by omega) (by omega) (by omega)
  have b3 : -100000000 < n / 1000000000 ∧ n / 1000000000 < 100000000 := by omega
  have b4 := emod_in n (show (0 : Int) < 1000000000 by omega)
  have c2 := fun W : World => carry_p (s - 60 * z + n / 1000000000) 86400 W (by omega) (by omega) (by omega) (by omega)
  have b5 : -1000000000000 < (s - 60 * z + n / 1000000000) / 86400 ∧ (s - 60 * z + n / 1000000000) / 86400 < 1000000000000 := by omega
  have b6 := emod_in (s - 60 * z + n / 1000000000) (show (0 : Int) < 86400 by omega)
  have c3 := fun W : World => days_p y m d W (by omega) (by omega) (by omega) (by omega) (by omega) (by omega)
  have hd : -100000000000000 < daysS y m d ∧ daysS y m d < 100000000000000 := by
    unfold daysS dayN
    have hl : -20000000000 < lnY y + (m - 1) / 12 ∧ lnY y + (m - 1) / 12 < 20000000000 := by unfold lnY; split <;> omega
    generalize lnY y + (m - 1) / 12 = l at *
    rw [Nat.add_sub_cancel]
    have := cum_nonneg l ((m - 1) % 12).toNat
    have := cum_le l (show ((m - 1) % 12).toNat ≤ 12 by omega)
    have ha : -20000000000000 < ahd l ∧ ahd l < 20000000000000 := by unfold ahd; omega
    have hb : ahd 2000 = 730485 := by decide
    omega
  have HC : Hid _ := And.intro c1 (And.intro c2 c3)
  clear c1 c2 c3
  generalize n / 1000000000 = NV at *
  generalize n % 1000000000 = NR at *
  generalize (s - 60 * z + NV) / 86400 = SV at *
  generalize (s - 60 * z + NV) % 86400 = SR at *
  generalize daysS y m d = DD at *
  obtain ⟨b31, b32⟩ := b3
  obtain ⟨b41, b42⟩ := b4
  obtain ⟨b51, b52⟩ := b5
  obtain ⟨b61, b62⟩ := b6
  obtain ⟨hd0, hd1⟩ := hd
  go_enter Try.func72, Try.ntmps72
  go_wp2_with (first | (go_at_call 46; with_reducible refine Calls.mono (HC.out.1 _) ?_; rintro e w' ⟨rfl, q2, rfl⟩) | (go_at_call 46; with_reducible refine Calls.mono (HC.out.2.1 _) ?_; rintro e w' ⟨rfl, q3, rfl⟩))
  with_reducible refine Calls.mono (HC.out.2.2 _) ?_
  rintro e w5 ⟨rfl, hB5⟩
  have hb0 := bdrewN (bdrewN ((Below.refl w.heap.size w).alloc (Nat.le_refl _) (.cells #[.int .i64 k, .int .i64 y, .int .i64 m, .int .i64 d, .int .i64 s, .int .i64 n, .bool hz, .int .i64 z] 24)) q2) q3
  rw [World.drewN_drewN] at hb0
  have HB : Hid (Below w.heap.size w w5) := hb0.trans (hB5.mono hb0.size)
  clear hb0 hB5
  go_wp2_with fail
  go_ret
  refine ⟨_, rfl, nw_heap _ _, HB.out.alloc HB.out.size _⟩
end Go.Proofs.Ytijcbgjlofcdfaa
namespace Go.Proofs.Ytijcbgjlofcdfaa
open Go.RowKit
set_option linter.unusedVariables false

theorem box2 (w : World) (A B : Obj) : ((w.alloc A).alloc B).heap[w.heap.size]? = some A ∧ ((w.alloc A).alloc B).heap[w.heap.size + 1]? = some B ∧ Below w.heap.size w ((w.alloc A).alloc B) := by
  have hA := nw_heap w A
  have hB := nw_heap (w.alloc A) B
  have b1 : Below (w.alloc A).heap.size (w.alloc A) ((w.alloc A).alloc B) := (Below.refl _ _).alloc (Nat.le_refl _) _
  rw [sza] at hB
  exact ⟨(b1.block _ (by simp)).trans hA, hB, ((Below.refl _ _).alloc (Nat.le_refl _) _).alloc (by simp) _⟩
/-- Bounds for a moment whose line is asked. -/
structure MoL (a : Mo) : Prop where
  b : MoB a
  n0 : 0 ≤ a.n
  n1 : a.n < 1000000000
  z0 : -1000000 < a.z
  z1 : a.z < 1000000
set_option maxHeartbeats 1000000 in
theorem byLines_p (a b : Mo) (w : World) (ha : MoL a) (hb : MoL b) : Calls Try.prog 41 #[moV a, moV b] w fun e w' => e = .returned (.int .i64 (ordS (linS a a.z) a.n (linS b b.z) b.n)) ∧ Below w.heap.size w w' := by
  have hlx := lex_ord (D := daysS a.y a.m a.d) (s := a.s - 60 * a.z) (E := daysS b.y b.m b.d) (t := b.s - 60 * b.z) ha.n0 ha.n1 hb.n0 hb.n1
  have e1 : ordS (linS a a.z) a.n (linS b b.z) b.n = ordS (86400 * daysS a.y a.m a.d + (a.s - 60 * a.z)) a.n (86400 * daysS b.y b.m b.d + (b.s - 60 * b.z)) b.n := by
    unfold linS
    rw [Int.add_sub_assoc, Int.add_sub_assoc]
  rw [e1, ← hlx]
  clear e1 hlx
  obtain ⟨x1, x2, hb0⟩ := box2 w (.cells (moC a) 24) (.cells (moC b) 24)
  have ql := fun W : World => line_p a W ha.b ha.z0 ha.z1
  have qr := fun W : World => line_p b W hb.b hb.z0 hb.z1
  have qc := compare3_p (daysS a.y a.m a.d + (a.s - 60 * a.z + a.n / 1000000000) / 86400) ((a.s - 60 * a.z + a.n / 1000000000) % 86400) (a.n % 1000000000) (daysS b.y b.m b.d + (b.s - 60 * b.z + b.n / 1000000000) / 86400) ((b.s - 60 * b.z + b.n / 1000000000) % 86400) (b.n % 1000000000)
  generalize daysS a.y a.m a.d + (a.s - 60 * a.z + a.n / 1000000000) / 86400 = A1 at *
  generalize (a.s - 60 * a.z + a.n / 1000000000) % 86400 = A2 at *
  generalize a.n % 1000000000 = A3 at *
  generalize daysS b.y b.m b.d + (b.s - 60 * b.z + b.n / 1000000000) / 86400 = B1 at *
  generalize (b.s - 60 * b.z + b.n / 1000000000) % 86400 = B2 at *
  generalize b.n % 1000000000 = B3 at *
  clear ha hb
  go_enter Try.func41, Try.ntmps41
  go_wp2_with fail
  generalize hU : ((w.alloc (.cells (moC a) 24)).alloc (.cells (moC b) 24)) = U at *
  clear hU
  have hkp : ∀ W, Below U.heap.size U W → (W.cell? ⟨w.heap.size, 0, none⟩ = some (.int .i64 a.k) ∧ W.cell? ⟨w.heap.size, 1, none⟩ = some (.int .i64 a.y) ∧ W.cell? ⟨w.heap.size, 2, none⟩ = some (.int .i64 a.m) ∧ W.cell? ⟨w.heap.size, 3, none⟩ = some (.int .i64 a.d) ∧ W.cell? ⟨w.heap.size, 4, none⟩ = some (.int .i64 a.s) ∧ W.cell? ⟨w.heap.size, 5, none⟩ = some (.int .i64 a.n) ∧ W.cell? ⟨w.heap.size, 6, none⟩ = some (.bool a.hz) ∧ W.cell? ⟨w.heap.size, 7, none⟩ = some (.int .i64 a.z) ∧ W.cell? ⟨w.heap.size + 1, 0, none⟩ = some (.int .i64 b.k) ∧ W.cell? ⟨w.heap.size + 1, 1, none⟩ = some (.int .i64 b.y) ∧ W.cell? ⟨w.heap.size + 1, 2, none⟩ = some (.int .i64 b.m) ∧ W.cell? ⟨w.heap.size + 1, 3, none⟩ = some (.int .i64 b.d) ∧ W.cell? ⟨w.heap.size + 1, 4, none⟩ = some (.int .i64 b.s) ∧ W.cell? ⟨w.heap.size + 1, 5, none⟩ = some (.int .i64 b.n) ∧ W.cell? ⟨w.heap.size + 1, 6, none⟩ = some (.bool b.hz) ∧ W.cell? ⟨w.heap.size + 1, 7, none⟩ = some (.int .i64 b.z)) := fun W hW => by
    obtain ⟨⟨g0, g1, g2, g3, g4, g5, g6, g7⟩, _⟩ := blk8 ((hW.block _ (lt_of x1)).trans x1)
    obtain ⟨⟨h0, h1, h2, h3, h4, h5, h6, h7⟩, _⟩ := blk8 ((hW.block _ (lt_of x2)).trans x2)
    exact ⟨g0, g1, g2, g3, g4, g5, g6, g7, h0, h1, h2, h3, h4, h5, h6, h7⟩
  obtain ⟨g0, g1, g2, g3, g4, g5, g6, g7, h0, h1, h2, h3, h4, h5, h6, h7⟩ := hkp U.drew (below_drewN 1)
  have HB : Hid (Below U.heap.size U U.drew) := below_drewN 1
  have HKP : Hid _ := hkp
  have HC : Hid _ := And.intro ql (And.intro qr (And.intro qc hb0))
  clear hkp x1 x2 hb0 ql qr qc
  go_region_held3 (fun W => W.cell? ⟨w.heap.size, 0, none⟩ = some (.int .i64 a.k) ∧ W.cell? ⟨w.heap.size, 1, none⟩ = some (.int .i64 a.y) ∧ W.cell? ⟨w.heap.size, 2, none⟩ = some (.int .i64 a.m) ∧ W.cell? ⟨w.heap.size, 3, none⟩ = some (.int .i64 a.d) ∧ W.cell? ⟨w.heap.size, 4, none⟩ = some (.int .i64 a.s) ∧ W.cell? ⟨w.heap.size, 5, none⟩ = some (.int .i64 a.n) ∧ W.cell? ⟨w.heap.size, 6, none⟩ = some (.bool a.hz) ∧ W.cell? ⟨w.heap.size, 7, none⟩ = some (.int .i64 a.z) ∧ W.cell? ⟨w.heap.size + 1, 0, none⟩ = some (.int .i64 b.k) ∧ W.cell? ⟨w.heap.size + 1, 1, none⟩ = some (.int .i64 b.y) ∧ W.cell? ⟨w.heap.size + 1, 2, none⟩ = some (.int .i64 b.m) ∧ W.cell? ⟨w.heap.size + 1, 3, none⟩ = some (.int .i64 b.d) ∧ W.cell? ⟨w.heap.size + 1, 4, none⟩ = some (.int .i64 b.s) ∧ W.cell? ⟨w.heap.size + 1, 5, none⟩ = some (.int .i64 b.n) ∧ W.cell? ⟨w.heap.size + 1, 6, none⟩ = some (.bool b.hz) ∧ W.cell? ⟨w.heap.size + 1, 7, none⟩ = some (.int .i64 b.z)) (first | exact ⟨g0, g1, g2, g3, g4, g5, g6, g7, h0, h1, h2, h3, h4, h5, h6, h7⟩ | fail) (first
    | (go_at_call 72; (with_reducible refine Calls.mono (HC.out.1 _) ?_); rintro e w1 ⟨b1, rfl, hx1, hb1⟩; have hbb := HB.out.trans (hb1.mono HB.out.size); clear HB g0 g1 g2 g3 g4 g5 g6 g7 h0 h1 h2 h3 h4 h5 h6 h7; obtain ⟨g0, g1, g2, g3, g4, g5, g6, g7, h0, h1, h2, h3, h4, h5, h6, h7⟩ := HKP.out _ hbb; have HB : Hid _ := hbb; have HX1 : Hid _ := hx1; clear hbb hb1 hx1)
    | (go_at_call 72; (with_reducible refine Calls.mono (HC.out.2.1 _) ?_); rintro e w2 ⟨b2, rfl, hx2, hb2⟩; have hbb := HB.out.trans (hb2.mono HB.out.size); clear HB g0 g1 g2 g3 g4 g5 g6 g7 h0 h1 h2 h3 h4 h5 h6 h7; obtain ⟨g0, g1, g2, g3, g4, g5, g6, g7, h0, h1, h2, h3, h4, h5, h6, h7⟩ := HKP.out _ hbb; have HB : Hid _ := hbb; have HX2 : Hid _ := And.intro hx2 ((hb2.block _ (lt_of HX1.out)).trans HX1.out); clear hbb hb2 hx2)
    | (go_at_call 71; (with_reducible refine Calls.mono (HC.out.2.2.1 _ _ _ HX2.out.2 HX2.out.1) ?_); rintro e w3 ⟨rfl, hw3⟩; subst hw3)
    | fail)
  all_goals
    go_wp2_with fail
    go_ret
    exact ⟨rfl, HC.out.2.2.2.trans (HB.out.mono HC.out.2.2.2.size)⟩
end Go.Proofs.Ytijcbgjlofcdfaa
