/- The reader: the closure that catches a fault. -/
import Derived.Test.YthlkbijpphdblaaC1
import Derived.Defers
import Derived.Recover
namespace Go.Proofs.Ythlkbijpphdblaa
open Go.RowKit
set_option linter.unusedVariables false

theorem catch_idle (a b : Addr) (w : World) :
    CallsD Try.prog 35 #[.pointer (some a), .pointer (some b)] .returning w fun e u' w' => e = .returned (.tuple #[]) ∧ u' = .returning ∧ w' = w := by
  refine callsD_of_wpS Try.func35 rfl fun c₀ cs hu => ?_
  apply wpS_seq
  apply wpS_region
  simp [wpOpsS, go_sem, recoverD, hu, Try.ntmps35, Exit.thenS]
  refine wpS_of_wp ?_
  go_wp2
  cases c₀
  simp_all [bodyPostS, results, Try.results35]
/-- What the closure leaves. -/
structure Caught (E K : Nat) (place err : Int) (w w' : World) : Prop where
  e : w'.heap[E]? = some (.cells zN 27 (0, 0))
  k : w'.heap[K]? = some (.cells #[.int .i64 place, .int .i64 err] 55 (0, 0))
  fro : Fro (fun j => j = E ∨ j = K) w w'
theorem caught_w {E K : Nat} {place err : Int} {w : World} {x0 x1 x2 x3 x4 y0 y1 : Value} (hE : w.heap[E]? = some (.cells #[x0, x1, x2, x3, x4] 27 (0, 0))) (hK : w.heap[K]? = some (.cells #[y0, y1] 55 (0, 0))) (hEK : E ≠ K) :
    Caught E K place err w (((put5 w E (.int .i64 0) (.slice none 0 0) (.int .i64 0) (.int .i64 0) (.slice none 0 0)).setCell ⟨K, 0, none⟩ (.int .i64 place)).setCell ⟨K, 1, none⟩ (.int .i64 err)).drew := by
  have h1 := put5_at hE (.int .i64 0) (.slice none 0 0) (.int .i64 0) (.int .i64 0) (.slice none 0 0)
  have h2 := (put5_blk w E (.int .i64 0) (.slice none 0 0) (.int .i64 0) (.int .i64 0) (.slice none 0 0) K hEK.symm).trans hK
  have hf := put5_fro (Fro.refl (fun j => j = E ∨ j = K) w) (.inl (.inl rfl)) (.int .i64 0) (.slice none 0 0) (.int .i64 0) (.int .i64 0) (.slice none 0 0)
  obtain ⟨V, hV⟩ : ∃ V, put5 w E (.int .i64 0) (.slice none 0 0) (.int .i64 0) (.int .i64 0) (.slice none 0 0) = V := ⟨_, rfl⟩
  rw [hV] at h1 h2 hf ⊢
  clear hV
  have h3 := bset (i := 0) h2 (.int .i64 place)
  have h4 := bset (i := 1) h3 (.int .i64 err)
  simp only [List.setIfInBounds_toArray, List.set_cons_succ, List.set_cons_zero] at h4
  have h5 : ((V.setCell ⟨K, 0, none⟩ (.int .i64 place)).setCell ⟨K, 1, none⟩ (.int .i64 err)).heap[E]? = some (.cells zN 27 (0, 0)) := (Below.heap_setCell _ ⟨K, 1, none⟩ _ E hEK).trans ((Below.heap_setCell _ ⟨K, 0, none⟩ _ E hEK).trans h1)
  have h6 := ((hf.set (i := 0) (X := K) (.inl (.inr rfl)) (.int .i64 place)).set (i := 1) (X := K) (.inl (.inr rfl)) (.int .i64 err)).drewN 1
  obtain ⟨U, hU⟩ : ∃ U, (V.setCell ⟨K, 0, none⟩ (.int .i64 place)).setCell ⟨K, 1, none⟩ (.int .i64 err) = U := ⟨_, rfl⟩
  rw [hU] at h4 h5 h6 ⊢
  exact ⟨h5, h4, h6⟩
set_option maxHeartbeats 1600000 in
theorem catch_panic {E K : Nat} {place err : Int} {w : World} {x0 x1 x2 x3 x4 y0 y1 : Value} (hE : w.heap[E]? = some (.cells #[x0, x1, x2, x3, x4] 27 (0, 0))) (hK : w.heap[K]? = some (.cells #[y0, y1] 55 (0, 0))) (hEK : E ≠ K) :
    CallsD Try.prog 35 #[.pointer (some ⟨E, 0, none⟩), .pointer (some ⟨K, 0, none⟩)] (.panicking (flt place err)) w fun e u' w' =>
      e = .returned (.tuple #[]) ∧ u' = .panicking [{ v := .iface 55 (.agg #[.int .i64 place, .int .i64 err]), recovered := true }] ∧ Caught E K place err w w' := by
  obtain ⟨⟨e0, e1, e2, e3, e4⟩, g0, g1, g2, g3, g4⟩ := cells5 hE
  obtain ⟨⟨k0, k1⟩, kf0, kf1⟩ := blk2 hK
  have HE : Hid _ := And.intro hE hK
  clear hE hK
  have hta : ∀ w : World, (Instr.typeAssert (.iface 55 (.agg #[.int .i64 place, .int .i64 err])) 20 55 false).run Try.prog w = .ok (.agg #[.int .i64 place, .int .i64 err]) w := fun w => by kernel_rfl
  unfold flt
  refine callsD_of_wpS Try.func35 rfl fun c₀ cs hu => ?_
  apply wpS_seq
  apply wpS_region
  simp [wpOpsS, go_sem, recoverD, hu, Try.ntmps35, Exit.thenS, Array.replicate, List.replicate]
  refine wpS_of_wp ?_
  go_wp2
  go_region
  all_goals
    go_wp2
  simp [bodyPostS, results, Try.results35]
  exact caught_w HE.out.1 HE.out.2 hEK
end Go.Proofs.Ythlkbijpphdblaa
