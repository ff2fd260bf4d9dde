/- The program's line, byLines, put. -/
import Derived.Test.YtijcbgjlofcdfaaPd1
import Derived.LoopN
namespace Go.Proofs.Ytijcbgjlofcdfaa
open Go.RowKit
set_option linter.unusedVariables false

def cmpI (a b : Int) : Int := if a < b then -1 else if b < a then 1 else 0
def lex3 (a b c x y z : Int) : Int := if cmpI a x ≠ 0 then cmpI a x else if cmpI b y ≠ 0 then cmpI b y else cmpI c z
theorem nan_p (a : Int) (w : World) : Calls Try.prog 91 #[.int .i64 a] w fun e w' => e = .returned (.bool false) ∧ w' = w := by
  go_enter Try.func91, Try.ntmps91
  go_wp2_with fail
  go_ret
  exact ⟨ret_bool (by simp), rfl⟩
theorem compare_p (a b : Int) (w : World) : Calls Try.prog 87 #[.int .i64 a, .int .i64 b] w fun e w' => e = .returned (.int .i64 (cmpI a b)) ∧ w' = w := by
  unfold cmpI
  by_cases h : a < b
  · rw [if_pos h]
    go_enter Try.func87, Try.ntmps87
    go_wp2_with (first | (go_at_call 91; refine Calls.mono (nan_p _ _) ?_; rintro e w' ⟨rfl, rfl⟩))
    go_ret
    exact ⟨rfl, rfl⟩
  · rw [if_neg h]
    by_cases h' : b < a
    · rw [if_pos h']
      go_enter Try.func87, Try.ntmps87
      go_wp2_with (first | (go_at_call 91; refine Calls.mono (nan_p _ _) ?_; rintro e w' ⟨rfl, rfl⟩))
      go_ret
      exact ⟨rfl, rfl⟩
    · rw [if_neg h']
      go_enter Try.func87, Try.ntmps87
      go_wp2_with (first | (go_at_call 91; refine Calls.mono (nan_p _ _) ?_; rintro e w' ⟨rfl, rfl⟩))
      go_ret
      exact ⟨rfl, rfl⟩
set_option maxHeartbeats 400000 in
theorem compare3_p (a b c x y z : Int) (A B : Nat) (w : World) (hA : w.heap[A]? = some (.cells #[.int .i64 a, .int .i64 b, .int .i64 c] 3 (0, 0))) (hB : w.heap[B]? = some (.cells #[.int .i64 x, .int .i64 y, .int .i64 z] 3 (0, 0))) :
    Calls Try.prog 71 #[.slice (some ⟨A, 0, none⟩) 3 3, .slice (some ⟨B, 0, none⟩) 3 3] w fun e w' => e = .returned (.int .i64 (lex3 a b c x y z)) ∧ w' = w := by
  obtain ⟨a0, a1, a2⟩ := blk3 hA
  obtain ⟨b0, b1, b2⟩ := blk3 hB
  have HC : Hid _ := And.intro (compare_p a x w) (And.intro (compare_p b y w) (compare_p c z w))
  clear hA hB
  unfold lex3
  generalize cmpI a x = r1 at *
  generalize cmpI b y = r2 at *
  generalize cmpI c z = r3 at *
  by_cases h1 : r1 = 0
  · subst h1
    rw [if_neg (by simp)]
    by_cases h2 : r2 = 0
    · subst h2
      rw [if_neg (by simp)]
      by_cases h3 : r3 = 0
      · subst h3
        go_enter Try.func71, Try.ntmps71
        go_wp2_with fail
        refine wp_loop_rounds 4 ?_
        rw [rounds_succ]
        go_wp2_with (first | (go_at_call 87; with_reducible refine Calls.mono HC.out.1 ?_; rintro e w' ⟨rfl, rfl⟩))
        rw [rounds_succ]
        go_wp2_with (first | (go_at_call 87; with_reducible refine Calls.mono HC.out.2.1 ?_; rintro e w' ⟨rfl, rfl⟩))
        rw [rounds_succ]
        go_wp2_with (first | (go_at_call 87; with_reducible refine Calls.mono HC.out.2.2 ?_; rintro e w' ⟨rfl, rfl⟩))
        rw [rounds_succ]
        go_wp2_with fail
        go_ret
        exact ⟨rfl, rfl⟩
      · have h3' : (r3 != 0) = true := by simpa using h3
        go_enter Try.func71, Try.ntmps71
        go_wp2_with fail
        refine wp_loop_rounds 4 ?_
        rw [rounds_succ]
        go_wp2_with (first | (go_at_call 87; with_reducible refine Calls.mono HC.out.1 ?_; rintro e w' ⟨rfl, rfl⟩))
        rw [rounds_succ]
        go_wp2_with (first | (go_at_call 87; with_reducible refine Calls.mono HC.out.2.1 ?_; rintro e w' ⟨rfl, rfl⟩))
        rw [rounds_succ]
        go_wp2_with (first | (go_at_call 87; with_reducible refine Calls.mono HC.out.2.2 ?_; rintro e w' ⟨rfl, rfl⟩))
        go_ret
        exact ⟨rfl, rfl⟩
    · rw [if_pos h2]
      have h2' : (r2 != 0) = true := by simpa using h2
      go_enter Try.func71, Try.ntmps71
      go_wp2_with fail
      refine wp_loop_rounds 3 ?_
      rw [rounds_succ]
      go_wp2_with (first | (go_at_call 87; with_reducible refine Calls.mono HC.out.1 ?_; rintro e w' ⟨rfl, rfl⟩))
      rw [rounds_succ]
      go_wp2_with (first | (go_at_call 87; with_reducible refine Calls.mono HC.out.2.1 ?_; rintro e w' ⟨rfl, rfl⟩))
      go_ret
      exact ⟨rfl, rfl⟩
  · rw [if_pos h1]
    have h1' : (r1 != 0) = true := by simpa using h1
    go_enter Try.func71, Try.ntmps71
    go_wp2_with fail
    refine wp_loop_rounds 2 ?_
    rw [rounds_succ]
    go_wp2_with (first | (go_at_call 87; with_reducible refine Calls.mono HC.out.1 ?_; rintro e w' ⟨rfl, rfl⟩))
    go_ret
    exact ⟨rfl, rfl⟩
/-- A moment's line: its days, its seconds, its nanoseconds. -/
theorem lex_ord {D s n E t m : Int} (hn0 : 0 ≤ n) (hn1 : n < 1000000000) (hm0 : 0 ≤ m) (hm1 : m < 1000000000) :
    lex3 (D + (s + n / 1000000000) / 86400) ((s + n / 1000000000) % 86400) (n % 1000000000) (E + (t + m / 1000000000) / 86400) ((t + m / 1000000000) % 86400) (m % 1000000000) = ordS (86400 * D + s) n (86400 * E + t) m := by
  unfold lex3 cmpI ordS
  rw [show n / 1000000000 = 0 by omega, show m / 1000000000 = 0 by omega, show n % 1000000000 = n by omega, show m % 1000000000 = m by omega, Int.add_zero, Int.add_zero]
  repeat' split
  all_goals omega
set_option maxHeartbeats 400000 in
theorem line_p (a : Mo) (w : World) (ha : MoB a) (hz0 : -1000000 < a.z) (hz1 : a.z < 1000000) : Calls Try.prog 72 #[moV a] w fun e w' => ∃ b, e = .returned (.slice (some ⟨b, 0, none⟩) 3 3) ∧ w'.heap[b]? = some (.cells #[.int .i64 (daysS a.y a.m a.d + (a.s - 60 * a.z + a.n / 1000000000) / 86400), .int .i64 ((a.s - 60 * a.z + a.n / 1000000000) % 86400), .int .i64 (a.n % 1000000000)] 3 (0, 0)) ∧ Below w.heap.size w w' := by
  obtain ⟨k, y, m, d, s, n, hz, z⟩ := a
  obtain ⟨y0, y1, m0, m1, d0, d1, s0, s1, n0, n1⟩ := ha
  dsimp only at *
  have c1 := fun W : World => carry_p n 1000000000 W (by omega) (by omega) (by omega) (by omega)
  have b3 : -100000000 < n / 1000000000 ∧ n / 1000000000 < 100000000 := by omega
  have b4 := emod_in n (show (0 : Int) < 1000000000 by omega)
  have c2 := fun W : World => carry_p (s - 60 * z + n / 1000000000) 86400 W (by omega) (by omega) (by omega) (by omega)
  have b5 : -1000000000000 < (s - 60 * z + n / 1000000000) / 86400 ∧ (s - 60 * z + n / 1000000000) / 86400 < 1000000000000 := by omega
  have b6 := emod_in (s - 60 * z + n / 1000000000) (show (0 : Int) < 86400 by omega)
  have c3 := fun W : World => days_p y m d W (by omega) (by omega) (by omega) (by omega) (by omega) (by omega)
  have hd : -100000000000000 < daysS y m d ∧ daysS y m d < 100000000000000 := by
    unfold daysS dayN
    have hl : -20000000000 < lnY y + (m - 1) / 12 ∧ lnY y + (m - 1) / 12 < 20000000000 := by unfold lnY; split <;> omega
    generalize lnY y + (m - 1) / 12 = l at *
    rw [Nat.add_sub_cancel]
    have := cum_nonneg l ((m - 1) % 12).toNat
    have := cum_le l (show ((m - 1) % 12).toNat ≤ 12 by omega)
    have ha : -20000000000000 < ahd l ∧ ahd l < 20000000000000 := by unfold ahd; omega
    have hb : ahd 2000 = 730485 := by decide
    omega
  have HC : Hid _ := And.intro c1 (And.intro c2 c3)
  clear c1 c2 c3
  generalize n / 1000000000 = NV at *
  generalize n % 1000000000 = NR at *
  generalize (s - 60 * z + NV) / 86400 = SV at *
  generalize (s - 60 * z + NV) % 86400 = SR at *
  generalize daysS y m d = DD at *
  obtain ⟨b31, b32⟩ := b3
  obtain ⟨b41, b42⟩ := b4
  obtain ⟨b51, b52⟩ := b5
  obtain ⟨b61, b62⟩ := b6
  obtain ⟨hd0, hd1⟩ := hd
  go_enter Try.func72, Try.ntmps72
  go_wp2_with (first | (go_at_call 46; with_reducible refine Calls.mono (HC.out.1 _) ?_; rintro e w' ⟨rfl, q2, rfl⟩) | (go_at_call 46; with_reducible refine Calls.mono (HC.out.2.1 _) ?_; rintro e w' ⟨rfl, q3, rfl⟩))
  with_reducible refine Calls.mono (HC.out.2.2 _) ?_
  rintro e w5 ⟨rfl, hB5⟩
  have hb0 := bdrewN (bdrewN ((Below.refl w.heap.size w).alloc (Nat.le_refl _) (.cells #[.int .i64 k, .int .i64 y, .int .i64 m, .int .i64 d, .int .i64 s, .int .i64 n, .bool hz, .int .i64 z] 24)) q2) q3
  rw [World.drewN_drewN] at hb0
  have HB : Hid (Below w.heap.size w w5) := hb0.trans (hB5.mono hb0.size)
  clear hb0 hB5
  go_wp2_with fail
  go_ret
  refine ⟨_, rfl, nw_heap _ _, HB.out.alloc HB.out.size _⟩
end Go.Proofs.Ytijcbgjlofcdfaa
